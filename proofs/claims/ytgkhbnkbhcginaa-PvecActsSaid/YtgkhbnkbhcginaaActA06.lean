/- PvecActs' walk: the pushes -/
import Derived.Test.YtgkhbnkbhcginaaReg06
import Derived.Test.YtgkhbnkbhcginaaDelete06
import Derived.Test.YtgkhbnkbhcginaaDoes06
import Derived.Test.YtgkhbnkbhcginaaFits06
import Derived.Deep.RegionHeldLaw
import Derived.Deep.RegionHeld3
import Derived.Deep.RegionWith
import Derived.Deep.CutRange
import Derived.Deep.CutBlock
namespace Go.Proofs.Ytgkhbnkbhcginaa
set_option maxRecDepth 100000
set_option linter.unusedSimpArgs false
set_option linter.unusedVariables false
open Go.RowKit

set_option maxHeartbeats 100000000 in
set_option linter.unusedVariables false in
theorem act_k0 (w2 wx : World) (za xb g cp j k : Nat) (la : Int) (a : Ac) (l : List Ac) (E : List En) (M : Cells) (F : Nat → Prop) (e : En) (hin : In6 w2 wx w2.heap.size za xb a g cp E.length (2 * sumN (l.take j) + 602 * j) M F E) (he : E[k]? = some e) (hE : 1 ≤ E.length ∧ E.length ≤ 13)
    (hk0 : k < E.length) (hla0 : 0 ≤ la) (hla1 : la ≤ j) (hz0 : w2.heap.size ≤ za) (hlen : l.length ≤ 60) (h1 : j < l.length) (hsum : sumN l ≤ 3000) (hat : l[j]? = some a) (hfa : a.Fits) (hkd : a.kd.tmod 7 = 0) (c : Code) (hc : Try.f3.body.bind (Code.blk 2) = some c)
    (u0 u1 u2 u4 u7 u11 u12 u13 u14 u15 u16 u17 u18 u19 u20 u21 u22 u23 u24 u25 u26 u27 u28 u29 u30 u31 u32 u33 u34 u35 u36 u37 u38 u39 u40 u41 u42 u43 u44 u45 u46 u47 u48 u49 u50 u51 u52 u53 u54 u55 u56 u58 u59 u60 u61 u62 u63 u64 u65 u66 u67 u68 u69 u70 u71 u72 u73 u74 u75 u76 u77 u78 u79 u80 u81 u82 u83 u84 u85 u86 u87 u88 u89 u90 u91 u92 u93 u94 u95 u96 u97 u98 u99 u100 u101 u102 u103 u104 u105 u106 u107 u108 u109 u110 u111 u112 u113 u114 u115 u116 u117 u118 u119 u120 u121 u122 u123 u124 u125 u126 u127 u128 u129 u130 u131 u132 u133 u134 u135 u136 u137 u138 u139 u140 u141 u142 u143 u144 u145 u146 u147 u148 u149 u150 u151 u152 u153 u154 u155 u156 u157 u158 u159 u160 u161 u162 u163 u164 u165 u166 u167 u168 u169 u170 u171 u172 u173 u174 u175 u176 u177 u178 u179 u180 u181 u182 u183 u184 u185 u186 u187 u188 u189 u190 u191 u192 u193 u194 u195 u196 u197 u198 u199 u200 u201 u202 u203 u204 u205 u206 u207 u208 u209 u210 u211 u212 u213 u214 u215 u216 u217 u218 u219 u220 u221 u222 u223 u224 u225 u226 u227 u228 u229 u230 u231 u232 u233 u234 u235 u236 u237 u238 u239 u240 u241 u242 u243 u244 u245 u246 u247 u248 u249 u250 u251 u252 u253 u254 u255 u256 u257 u258 u259 u260 u261 u262 u263 u264 u265 u266 u267 : Value) (Q : Exit → Act → World → Prop)
    (hQ : ∀ (v2 v5 v6 v10 v11 v12 v13 v14 v15 v16 v17 v18 v19 v20 v57 v58 v59 v60 v61 v62 v63 v64 v65 v66 v67 v68 v69 v70 v71 v72 v73 v74 v75 v76 v77 v78 v79 v80 v81 v82 v83 v84 v85 v86 v87 v88 v89 v90 v91 v92 v93 v94 v95 v96 v97 v98 v99 v100 v101 v102 v103 v104 v105 v106 v107 v108 v109 v110 v111 v112 v113 v114 v115 v116 v117 v118 v119 v120 v121 v122 v123 v124 v125 v126 v127 v128 v129 v130 v131 v132 v133 v134 v135 v136 v137 v138 v139 v140 v141 v142 v143 v144 v145 v146 v147 v148 v149 v150 v151 v152 v153 v154 v155 v156 v157 v158 v159 v160 v161 v162 v163 v164 v165 v166 v167 v168 v169 v170 v171 v172 v173 v174 v175 v176 v177 v178 v179 v180 v181 v182 v183 v184 v185 v186 v187 v188 v189 v190 v191 v192 v193 v194 v195 v196 v197 v198 v199 v200 v201 v202 v203 v204 v205 v206 v207 v208 v209 v210 v211 v212 v213 v214 v215 v216 v217 v218 v219 v220 v221 v222 v223 v224 v225 v226 v227 v228 v229 v230 v231 v232 v233 v234 v235 v236 : Value) (W : World), (v10 = .bool true ∧ W.cell? ⟨xb, 2, none⟩ = some (.int .i64 a.n) ∧ ∃ la' : Int, v6 = .int .u32 la' ∧ 0 ≤ la' ∧ la' ≤ (j + 1 : Nat) ∧ Mid w2 w2.heap.size za l (j + 1) v5 W) → Q .normal ⟨#[u0, u1, v2, .pointer (some ⟨za, 0, none⟩), u4, v5, v6, u7, .pointer (some ⟨xb, 0, none⟩), .int .i64 (k : Nat), v10, v11, v12, v13, v14, v15, v16, v17, v18, v19, v20, u21, u22, u23, u24, u25, u26, u27, u28, u29, u30, u31, u32, u33, u34, u35, u36, u37, u38, u39, u40, u41, u42, u43, u44, u45, u46, u47, u48, u49, u50, u51, u52, u53, u54, u55, u56, v57, v58, v59, v60, v61, v62, v63, v64, v65, v66, v67, v68, v69, v70, v71, v72, v73, v74, v75, v76, v77, v78, v79, v80, v81, v82, v83, v84, v85, v86, v87, v88, v89, v90, v91, v92, v93, v94, v95, v96, v97, v98, v99, v100, v101, v102, v103, v104, v105, v106, v107, v108, v109, v110, v111, v112, v113, v114, v115, v116, v117, v118, v119, v120, v121, v122, v123, v124, v125, v126, v127, v128, v129, v130, v131, v132, v133, v134, v135, v136, v137, v138, v139, v140, v141, v142, v143, v144, v145, v146, v147, v148, v149, v150, v151, v152, v153, v154, v155, v156, v157, v158, v159, v160, v161, v162, v163, v164, v165, v166, v167, v168, v169, v170, v171, v172, v173, v174, v175, v176, v177, v178, v179, v180, v181, v182, v183, v184, v185, v186, v187, v188, v189, v190, v191, v192, v193, v194, v195, v196, v197, v198, v199, v200, v201, v202, v203, v204, v205, v206, v207, v208, v209, v210, v211, v212, v213, v214, v215, v216, v217, v218, v219, v220, v221, v222, v223, v224, v225, v226, v227, v228, v229, v230, v231, v232, v233, v234, v235, v236, u237, u238, u239, u240, u241, u242, u243, u244, u245, u246, u247, u248, u249, u250, u251, u252, u253, u254, u255, u256, u257, u258, u259, u260, u261, u262, u263, u264, u265, u266, u267], []⟩ W)
    (hX : ∀ (v2 v10 v11 v12 v13 v14 v15 v16 v17 v18 v19 v20 v57 v58 v59 v60 v61 v62 v63 v64 v65 v66 v67 v68 v69 v70 v71 v72 v73 v74 v75 v76 v77 v78 v79 v80 v81 v82 v83 v84 v85 v86 v87 v88 v89 v90 v91 v92 v93 v94 v95 v96 v97 v98 v99 v100 v101 v102 v103 v104 v105 v106 v107 v108 v109 v110 v111 v112 v113 v114 v115 v116 v117 v118 v119 v120 v121 v122 v123 v124 v125 v126 v127 v128 v129 v130 v131 v132 v133 v134 v135 v136 v137 v138 v139 v140 v141 v142 v143 v144 v145 v146 v147 v148 v149 v150 v151 v152 v153 v154 v155 v156 v157 v158 v159 v160 v161 v162 v163 v164 v165 v166 v167 v168 v169 v170 v171 v172 v173 v174 v175 v176 v177 v178 v179 v180 v181 v182 v183 v184 v185 v186 v187 v188 v189 v190 v191 v192 v193 v194 v195 v196 v197 v198 v199 v200 v201 v202 v203 v204 v205 v206 v207 v208 v209 v210 v211 v212 v213 v214 v215 v216 v217 v218 v219 v220 v221 v222 v223 v224 v225 v226 v227 v228 v229 v230 v231 v232 v233 v234 v235 v236 : Value) (W : World), Mid w2 w2.heap.size za l (j + 1) (.slice (some ⟨g, 0, none⟩) E.length cp) W → Q (.exit 1) ⟨#[u0, u1, v2, .pointer (some ⟨za, 0, none⟩), u4, .slice (some ⟨g, 0, none⟩) E.length cp, .int .u32 la, u7, .pointer (some ⟨xb, 0, none⟩), .int .i64 (k : Nat), v10, v11, v12, v13, v14, v15, v16, v17, v18, v19, v20, u21, u22, u23, u24, u25, u26, u27, u28, u29, u30, u31, u32, u33, u34, u35, u36, u37, u38, u39, u40, u41, u42, u43, u44, u45, u46, u47, u48, u49, u50, u51, u52, u53, u54, u55, u56, v57, v58, v59, v60, v61, v62, v63, v64, v65, v66, v67, v68, v69, v70, v71, v72, v73, v74, v75, v76, v77, v78, v79, v80, v81, v82, v83, v84, v85, v86, v87, v88, v89, v90, v91, v92, v93, v94, v95, v96, v97, v98, v99, v100, v101, v102, v103, v104, v105, v106, v107, v108, v109, v110, v111, v112, v113, v114, v115, v116, v117, v118, v119, v120, v121, v122, v123, v124, v125, v126, v127, v128, v129, v130, v131, v132, v133, v134, v135, v136, v137, v138, v139, v140, v141, v142, v143, v144, v145, v146, v147, v148, v149, v150, v151, v152, v153, v154, v155, v156, v157, v158, v159, v160, v161, v162, v163, v164, v165, v166, v167, v168, v169, v170, v171, v172, v173, v174, v175, v176, v177, v178, v179, v180, v181, v182, v183, v184, v185, v186, v187, v188, v189, v190, v191, v192, v193, v194, v195, v196, v197, v198, v199, v200, v201, v202, v203, v204, v205, v206, v207, v208, v209, v210, v211, v212, v213, v214, v215, v216, v217, v218, v219, v220, v221, v222, v223, v224, v225, v226, v227, v228, v229, v230, v231, v232, v233, v234, v235, v236, u237, u238, u239, u240, u241, u242, u243, u244, u245, u246, u247, u248, u249, u250, u251, u252, u253, u254, u255, u256, u257, u258, u259, u260, u261, u262, u263, u264, u265, u266, u267], []⟩ W) :
    Code.wp Try.prog c Q ⟨#[u0, u1, u2, .pointer (some ⟨za, 0, none⟩), u4, .slice (some ⟨g, 0, none⟩) E.length cp, .int .u32 la, u7, .pointer (some ⟨xb, 0, none⟩), .int .i64 (k : Nat), .bool true, u11, u12, u13, u14, u15, u16, u17, u18, u19, u20, u21, u22, u23, u24, u25, u26, u27, u28, u29, u30, u31, u32, u33, u34, u35, u36, u37, u38, u39, u40, u41, u42, u43, u44, u45, u46, u47, u48, u49, u50, u51, u52, u53, u54, u55, u56, .int .u8 (a.kd.tmod 7), u58, u59, u60, u61, u62, u63, u64, u65, u66, u67, u68, u69, u70, u71, u72, u73, u74, u75, u76, u77, u78, u79, u80, u81, u82, u83, u84, u85, u86, u87, u88, u89, u90, u91, u92, u93, u94, u95, u96, u97, u98, u99, u100, u101, u102, u103, u104, u105, u106, u107, u108, u109, u110, u111, u112, u113, u114, u115, u116, u117, u118, u119, u120, u121, u122, u123, u124, u125, u126, u127, u128, u129, u130, u131, u132, u133, u134, u135, u136, u137, u138, u139, u140, u141, u142, u143, u144, u145, u146, u147, u148, u149, u150, u151, u152, u153, u154, u155, u156, u157, u158, u159, u160, u161, u162, u163, u164, u165, u166, u167, u168, u169, u170, u171, u172, u173, u174, u175, u176, u177, u178, u179, u180, u181, u182, u183, u184, u185, u186, u187, u188, u189, u190, u191, u192, u193, u194, u195, u196, u197, u198, u199, u200, u201, u202, u203, u204, u205, u206, u207, u208, u209, u210, u211, u212, u213, u214, u215, u216, u217, u218, u219, u220, u221, u222, u223, u224, u225, u226, u227, u228, u229, u230, u231, u232, u233, u234, u235, u236, u237, u238, u239, u240, u241, u242, u243, u244, u245, u246, u247, u248, u249, u250, u251, u252, u253, u254, u255, u256, u257, u258, u259, u260, u261, u262, u263, u264, u265, u266, u267], []⟩ wx := by
  rw [show Try.f3.body.bind (Code.blk 2) = some _ from rfl] at hc
  obtain rfl := Option.some.inj hc
  clear hc
  have HIN := Lib.hid hin
  have HE := Lib.hid he
  have HEE := Lib.hid hE
  have HQ := Lib.hid hQ
  have HX := Lib.hid hX
  have HTK := Lib.hid (sumN_next hat)
  have HB0 := Lib.hid (show sumN (l.take j) ≤ 3000 from Nat.le_trans (sumN_take_le l j) hsum)
  have hz := HIN.out.ca
  have x0 := HIN.out.x0
  have x2 := HIN.out.x2
  have x3 := HIN.out.x3
  have x4 := HIN.out.x4
  have x5 := HIN.out.x5
  have y5 : (0 : Int) ≤ (k : Int) := by omega
  have y6 : (k : Int) < (E.length : Int) := by omega
  have hE1 : 1 ≤ E.length := hE.1
  have hE2 : E.length ≤ 13 := hE.2
  clear hin he hE hQ hX hsum hat hfa
  obtain ⟨n0, hn0, hn1, hn2⟩ : ∃ n0 : Nat, n0 = pushN a ∧ wrap64 ((IntKind.u64.wrap a.n).tmod 300) = (n0 : Int) ∧ n0 < 300 := by
    have h0 : 0 ≤ IntKind.u64.wrap a.n := by rw [IntKind.wrap_u64]; omega
    refine ⟨pushN a, rfl, ?_, pushN_lt a⟩
    unfold pushN
    rw [if_pos hkd, Int.tmod_eq_emod_of_nonneg h0, IntWalk.wrap64_in _ (by omega)]
    omega
  have HN0 := Lib.hid hn0
  have HN1 := Lib.hid hn1
  clear hn0 hn1
  go_wp2_with fail
  rw [HN1.out]
  clear hkd
  go_loopg [5, 10, 69] n0 (fun c' s5 ok i69 W => ∃ i : Nat, i + c' = n0 ∧ i69 = .int .i64 (i : Int) ∧ ok = .bool true ∧ s5 = .slice (some ⟨g, 0, none⟩) E.length cp ∧ ∃ M' F' E', In6 w2 W w2.heap.size za xb a g cp E.length (2 * sumN (l.take j) + 602 * j + 2 * i) M' F' E')
  case atStart => exact ⟨0, by omega, rfl, rfl, rfl, M, F, E, HIN.out⟩
  case round =>
    obtain ⟨i, hi, rfl, rfl, rfl, M', F', E', hin⟩ := hrel
    clear hz x0 x2 x3 x4 x5
    by_cases h3 : i < n0
    · obtain ⟨e2, he⟩ : ∃ e, E'[k]? = some e := ⟨_, List.getElem?_eq_getElem (by rw [hin.len]; exact hk0)⟩
      have hm := List.mem_of_getElem? he
      have r5 := row5 hin.wd.all he
      obtain ⟨a0, _⟩ := r5 0 _ (by decide) rfl
      obtain ⟨a1, _⟩ := r5 1 _ (by decide) rfl
      obtain ⟨a2, _⟩ := r5 2 _ (by decide) rfl
      obtain ⟨a3, _⟩ := r5 3 _ (by decide) rfl
      obtain ⟨a4, _⟩ := r5 4 _ (by decide) rfl
      rw [Nat.add_zero] at a0
      have HV := Lib.hid (hin.wd.vec e2 hm)
      have HR := Lib.hid (hin.wd.row e2 hm)
      have HIN2 := Lib.hid hin
      have HE2 := Lib.hid he
      obtain ⟨A5, c5, e5, _⟩ := HR.out.form
      clear r5 hin he hm
      obtain ⟨⟨vn, vr, vt⟩, l5, s5, ow⟩ := e2
      simp only at e5
      subst e5
      simp only at a0 a1 a2 a3 a4
      go_upto_region 20 with fail
      obtain ⟨wz, hwz⟩ : ∃ wz, wz = wr.alloc (.cells #[.int .i64 (vn : Int), .int .i64 (vr : Int), .int .i64 (vt : Int), .slice A5 l5.length c5, .int .u32 ow] 34) := ⟨_, rfl⟩
      have hbz : Below wr.heap.size wr wz := by rw [hwz]; exact (Below.refl _ wr).alloc (Nat.le_refl _) _
      obtain ⟨zq, hzq⟩ : ∃ zq, zq = wr.heap.size := ⟨_, rfl⟩
      have hc5 : C5 wz zq 34 (.int .i64 (vn : Int)) (.int .i64 (vr : Int)) (.int .i64 (vt : Int)) (.slice A5 l5.length c5) (.int .u32 ow) := by rw [hwz, hzq]; exact C5.new _ _ _ _ _ _ _
      have HC5 := Lib.hid hc5
      have HI3 := Lib.hid (HIN2.out.below hbz)
      have HR3 := Lib.hid (show Rd wz (.slice A5 l5.length c5) l5.length (l5.flatMap cells3) from HR.out.below hbz)
      rw [← hwz, ← hzq]
      have HB3 := Lib.hid hbz
      have HLE := Lib.hid (show l5.length ≤ 1024 from HV.out.le)
      have q0 : ∀ W', Below wz.heap.size wz W' → W'.cell? ⟨zq, 3, none⟩ = some (.slice A5 l5.length c5) := fun W' h => (HC5.out.below h).c3
      have q1 : ∀ W', Below wz.heap.size wz W' → W'.cell? ⟨xb, 3, none⟩ = some (.int .u8 a.x.1) := fun W' h => (HI3.out.below h).x3
      have q2 : ∀ W', Below wz.heap.size wz W' → W'.cell? ⟨xb, 4, none⟩ = some (.int .i64 a.x.2.1) := fun W' h => (HI3.out.below h).x4
      have q3 : ∀ W', Below wz.heap.size wz W' → W'.cell? ⟨xb, 5, none⟩ = some (.string a.x.2.2) := fun W' h => (HI3.out.below h).x5
      clear hbz hwz hzq hc5 a0 a1 a2 a3 a4
      go_cut [13] from 70 to 109 (fun s13 wc => ∃ z13 g2 c2, s13 = .pointer (some ⟨z13, 0, none⟩) ∧ wz.heap.size ≤ z13 ∧ wz.heap.size ≤ g2 ∧ Below wz.heap.size wz wc ∧ wc.cell? ⟨z13, 0, none⟩ = some (.slice (some ⟨g2, 0, none⟩) (l5.length + 1) c2) ∧ Rd wc (.slice (some ⟨g2, 0, none⟩) (l5.length + 1) c2) (l5.length + 1) ((l5 ++ [(a.x.1, IntKind.i64.wrap (a.x.2.1 + (i : Int)), a.x.2.2)]).flatMap cells3))
      case first =>
        obtain ⟨i1, hi1, hy0, hy1, hy2⟩ := info_parts vinfo
        have HI1 := Lib.hid hi1
        clear hi1
        have hQ0 := Q20.start wz l5 (a.x.1, IntKind.i64.wrap (a.x.2.1 + (i : Int)), a.x.2.2)
        have HQB := Lib.hid hQ0.bel
        refine wp_region_noPanic ?_
        refine wp_region_held_drew (S := fun W' => Below wz.heap.size wz W') (by kernel_rfl) hQ0.bel (fun hH => ?_)
        obtain ⟨W0, hW0⟩ : ∃ W0, W0 = wz.drew := ⟨_, rfl⟩
        rw [← hW0] at hQ0 hH ⊢
        clear hW0
        refine wpAnyH_take (i := 0) (v := ?_) rfl (by kernel_rfl) (by kernel_rfl) (by kernel_rfl) (fun _ _ _ h => h) (Or.inl ⟨by rfl, ?_⟩) hH ?_
        rotate_left
        · intro W' hS
          go_simp
          with_reducible rfl
        simp only [Act.put, List.setIfInBounds_toArray, List.set_cons_zero, List.set_cons_succ, List.getElem_toArray, List.getElem_cons_zero, List.getElem_cons_succ]
        refine wpAnyH_take (i := 1) (v := ?_) rfl (by kernel_rfl) (by kernel_rfl) (by kernel_rfl) (fun _ _ _ h => h) (Or.inl ⟨by rfl, ?_⟩) hH ?_
        rotate_left
        · intro W' hS
          go_simp
          with_reducible rfl
        simp only [Act.put, List.setIfInBounds_toArray, List.set_cons_zero, List.set_cons_succ, List.getElem_toArray, List.getElem_cons_zero, List.getElem_cons_succ]
        refine wpAnyH_take (i := 3) (v := ?_) rfl (by kernel_rfl) (by kernel_rfl) (by kernel_rfl) (fun _ _ _ h => h) (Or.inl ⟨by rfl, ?_⟩) hH ?_
        rotate_left
        · intro W' hS
          go_simp
          with_reducible rfl
        simp only [Act.put, List.setIfInBounds_toArray, List.set_cons_zero, List.set_cons_succ, List.getElem_toArray, List.getElem_cons_zero, List.getElem_cons_succ]
        refine wpAnyH_take (i := 4) (v := ?_) rfl (by kernel_rfl) (by kernel_rfl) (by kernel_rfl) (fun _ _ _ h => h) (Or.inl ⟨by rfl, ?_⟩) hH ?_
        rotate_left
        · intro W' hS
          go_simp
          with_reducible rfl
        simp only [Act.put, List.setIfInBounds_toArray, List.set_cons_zero, List.set_cons_succ, List.getElem_toArray, List.getElem_cons_zero, List.getElem_cons_succ]
        refine wpAnyH_take (i := 5) (v := ?_) rfl (by kernel_rfl) (by kernel_rfl) (by kernel_rfl) (fun _ _ _ h => h) (Or.inl ⟨by rfl, ?_⟩) hH ?_
        rotate_left
        · intro W' hS
          go_simp
          with_reducible rfl
        simp only [Act.put, List.setIfInBounds_toArray, List.set_cons_zero, List.set_cons_succ, List.getElem_toArray, List.getElem_cons_zero, List.getElem_cons_succ]
        refine wpAnyH_take (i := 6) (v := ?_) rfl (by kernel_rfl) (by kernel_rfl) (by kernel_rfl) (fun _ _ _ h => h) (Or.inl ⟨by rfl, ?_⟩) hH ?_
        rotate_left
        · intro W' hS
          go_simp
          with_reducible rfl
        simp only [Act.put, List.setIfInBounds_toArray, List.set_cons_zero, List.set_cons_succ, List.getElem_toArray, List.getElem_cons_zero, List.getElem_cons_succ]
        refine wpAnyH_take (i := 7) (v := ?_) rfl (by kernel_rfl) (by kernel_rfl) (by kernel_rfl) (fun _ _ _ h => h) (Or.inl ⟨by rfl, ?_⟩) hH ?_
        rotate_left
        · intro W' hS
          go_simp
          with_reducible rfl
        simp only [Act.put, List.setIfInBounds_toArray, List.set_cons_zero, List.set_cons_succ, List.getElem_toArray, List.getElem_cons_zero, List.getElem_cons_succ]
        refine wpAnyH_take (i := 8) (v := ?_) rfl (by kernel_rfl) (by kernel_rfl) (by kernel_rfl) (fun _ _ _ h => h) (Or.inl ⟨by rfl, ?_⟩) hH ?_
        rotate_left
        · intro W' hS
          go_simp
          with_reducible rfl
        simp only [Act.put, List.setIfInBounds_toArray, List.set_cons_zero, List.set_cons_succ, List.getElem_toArray, List.getElem_cons_zero, List.getElem_cons_succ]
        refine wpAnyH_take (i := 9) (v := ?_) rfl (by kernel_rfl) (by kernel_rfl) (by kernel_rfl) (fun _ _ _ h => h) (Or.inl ⟨by rfl, ?_⟩) hH ?_
        rotate_left
        · intro W' hS
          go_simp
          with_reducible rfl
        simp only [Act.put, List.setIfInBounds_toArray, List.set_cons_zero, List.set_cons_succ, List.getElem_toArray, List.getElem_cons_zero, List.getElem_cons_succ]
        refine wpAnyH_take (i := 10) (v := ?_) rfl (by kernel_rfl) (by kernel_rfl) (by kernel_rfl) (fun _ _ _ h => h) (Or.inl ⟨by rfl, ?_⟩) hH ?_
        rotate_left
        · intro W' hS
          go_simp
          with_reducible rfl
        simp only [Act.put, List.setIfInBounds_toArray, List.set_cons_zero, List.set_cons_succ, List.getElem_toArray, List.getElem_cons_zero, List.getElem_cons_succ]
        refine wpAnyH_take (i := 11) (v := ?_) rfl (by kernel_rfl) (by kernel_rfl) (by kernel_rfl) (fun _ _ _ h => h) (Or.inl ⟨by rfl, ?_⟩) hH ?_
        rotate_left
        · intro W' hS
          go_simp
          with_reducible rfl
        simp only [Act.put, List.setIfInBounds_toArray, List.set_cons_zero, List.set_cons_succ, List.getElem_toArray, List.getElem_cons_zero, List.getElem_cons_succ]
        refine wpAnyH_take (i := 12) (v := ?_) rfl (by kernel_rfl) (by kernel_rfl) (by kernel_rfl) (fun _ _ _ h => h) (Or.inl ⟨by rfl, ?_⟩) hH ?_
        rotate_left
        · intro W' hS
          go_simp
          with_reducible rfl
        simp only [Act.put, List.setIfInBounds_toArray, List.set_cons_zero, List.set_cons_succ, List.getElem_toArray, List.getElem_cons_zero, List.getElem_cons_succ]
        refine wpAnyH_take (i := 13) (v := ?_) rfl (by kernel_rfl) (by kernel_rfl) (by kernel_rfl) (fun _ _ _ h => h) (Or.inl ⟨by rfl, ?_⟩) hH ?_
        rotate_left
        · intro W' hS
          go_simp
          with_reducible rfl
        simp only [Act.put, List.setIfInBounds_toArray, List.set_cons_zero, List.set_cons_succ, List.getElem_toArray, List.getElem_cons_zero, List.getElem_cons_succ]
        refine wpAnyH_take (i := 14) (v := ?_) rfl (by kernel_rfl) (by kernel_rfl) (by kernel_rfl) (fun _ _ _ h => h) (Or.inl ⟨by rfl, ?_⟩) hH ?_
        rotate_left
        · intro W' hS
          go_simp
          with_reducible rfl
        simp only [Act.put, List.setIfInBounds_toArray, List.set_cons_zero, List.set_cons_succ, List.getElem_toArray, List.getElem_cons_zero, List.getElem_cons_succ]
        clear q0 q1 q2 q3 hH
        refine wpAnyH_ready (rs := [2, 15, 17]) (by kernel_rfl) (by simp) ?_
        refine AllReadyH.cons rfl (fun K hK => ?_) (AllReadyH.cons rfl (fun K hK => ?_) (AllReadyH.cons rfl (fun K hK => ?_) (AllReadyH.nil)))
        · go_simp
          refine (clone_vals _ l5 _ (HR3.out.below hQ0.bel) (by have := HLE.out; omega)).mono ?_
          rintro e W1 ⟨v3, rfl, howny, hby⟩
          have hQ2 := hQ0.clone howny hby
          clear howny hby
          simp only
          refine hK.out _ _ ?_ (fun hH => ?_)
          · exact hQ2.bel
          clear hK K
          refine wpAnyH_ready (rs := [15, 17]) (by kernel_rfl) (by simp) ?_
          refine AllReadyH.cons rfl (fun K hK => ?_) (AllReadyH.cons rfl (fun K hK => ?_) (AllReadyH.nil))
          · go_simp
            refine hK.out _ _ ?_ (fun hH => ?_)
            · exact hQ2.bel.alloc hQ2.bel.size _
            clear hK K hH
            have hQ5 := hQ2.build 38
            simp only at hQ5
            generalize World.alloc _ _ = W4 at hQ5 ⊢
            generalize W1.heap.size = b6 at hQ5 ⊢
            refine wpAnyH_ready (rs := [16, 17]) (by kernel_rfl) (by simp) ?_
            refine AllReadyH.cons rfl (fun K hK => ?_) (AllReadyH.cons rfl (fun K hK => ?_) (AllReadyH.nil))
            · refine step_append_rd rfl (.tmp 78) (.tmp 91) 31 rfl wz.heap.size 38 i1 _ 3 32 Try.underlying31 HI1.out hy0 hy1 hy2 rfl (by decide) v3 l5.length (l5.flatMap cells3) rfl (hQ5.own _ rfl) _ 1 [.int .u8 a.x.1, .int .i64 (IntKind.i64.wrap (a.x.2.1 + (i : Int))), .string a.x.2.2] rfl (hQ5.lit _ rfl) rfl (by simp [Value.oneCell']) (by have := HLE.out; unfold maxLen; omega) (by have := HLE.out; omega) hQ5.bel.size ?_
              intro v9 W7 hown hgr hat
              have hQ8 := hQ5.app hown hgr
              clear hown hgr hat
              refine hK.out _ _ ?_ (fun hH => ?_)
              · exact hQ8.bel
              clear hK K
              refine wpAnyH_ready (rs := [17]) (by kernel_rfl) (by simp) ?_
              refine AllReadyH.cons rfl (fun K hK => ?_) (AllReadyH.nil)
              go_simp
              refine hK.out _ _ ?_ (fun hH => ?_)
              · exact hQ8.bel.alloc hQ8.bel.size _
              clear hK K hH
              have hQ11 := hQ8.alloc
              generalize World.alloc _ _ = W10 at hQ11 ⊢
              generalize W7.heap.size = z12 at hQ11 ⊢
              refine wpAnyH_ready (rs := [18]) (by kernel_rfl) (by simp) ?_
              refine AllReadyH.cons rfl (fun K hK => ?_) (AllReadyH.nil)
              obtain ⟨g2, c2, rfl, f1, f2, f3, f4, f5⟩ := hQ11.fin
              obtain ⟨k1, k2⟩ := (hQ11.box _ rfl).1.all
              go_simp
              clear k1 k2
              refine hK.out _ _ ?_ (fun hH => ?_)
              · exact f3
              clear hK K
              refine wpAnyH_done (by kernel_rfl) ?_ _
              refine NoPanic.normal ?_
              go_wp2_with fail
              go_meet
              exact ⟨_, g2, c2, rfl, f1, f2, f3, f4, f5⟩
            · go_simp
              refine hK.out _ _ ?_ (fun hH => ?_)
              · exact hQ5.bel.alloc hQ5.bel.size _
              clear hK K hH
              have hQ16 := hQ5.alloc
              generalize World.alloc _ _ = W15 at hQ16 ⊢
              generalize W4.heap.size = z17 at hQ16 ⊢
              refine wpAnyH_ready (rs := [16]) (by kernel_rfl) (by simp) ?_
              refine AllReadyH.cons rfl (fun K hK => ?_) (AllReadyH.nil)
              refine step_append_rd rfl (.tmp 78) (.tmp 91) 31 rfl wz.heap.size 38 i1 _ 3 32 Try.underlying31 HI1.out hy0 hy1 hy2 rfl (by decide) v3 l5.length (l5.flatMap cells3) rfl (hQ16.own _ rfl) _ 1 [.int .u8 a.x.1, .int .i64 (IntKind.i64.wrap (a.x.2.1 + (i : Int))), .string a.x.2.2] rfl (hQ16.lit _ rfl) rfl (by simp [Value.oneCell']) (by have := HLE.out; unfold maxLen; omega) (by have := HLE.out; omega) hQ16.bel.size ?_
              intro v20 W18 hown hgr hat
              have hQ19 := hQ16.app hown hgr
              clear hown hgr hat
              refine hK.out _ _ ?_ (fun hH => ?_)
              · exact hQ19.bel
              clear hK K
              refine wpAnyH_ready (rs := [18]) (by kernel_rfl) (by simp) ?_
              refine AllReadyH.cons rfl (fun K hK => ?_) (AllReadyH.nil)
              obtain ⟨g2, c2, rfl, f1, f2, f3, f4, f5⟩ := hQ19.fin
              obtain ⟨k1, k2⟩ := (hQ19.box _ rfl).1.all
              go_simp
              clear k1 k2
              refine hK.out _ _ ?_ (fun hH => ?_)
              · exact f3
              clear hK K
              refine wpAnyH_done (by kernel_rfl) ?_ _
              refine NoPanic.normal ?_
              go_wp2_with fail
              go_meet
              exact ⟨_, g2, c2, rfl, f1, f2, f3, f4, f5⟩
          · go_simp
            refine hK.out _ _ ?_ (fun hH => ?_)
            · exact hQ2.bel.alloc hQ2.bel.size _
            clear hK K hH
            have hQ24 := hQ2.alloc
            generalize World.alloc _ _ = W23 at hQ24 ⊢
            generalize W1.heap.size = z25 at hQ24 ⊢
            refine wpAnyH_ready (rs := [15]) (by kernel_rfl) (by simp) ?_
            refine AllReadyH.cons rfl (fun K hK => ?_) (AllReadyH.nil)
            go_simp
            refine hK.out _ _ ?_ (fun hH => ?_)
            · exact hQ24.bel.alloc hQ24.bel.size _
            clear hK K hH
            have hQ27 := hQ24.build 38
            simp only at hQ27
            generalize World.alloc _ _ = W26 at hQ27 ⊢
            generalize W23.heap.size = b28 at hQ27 ⊢
            refine wpAnyH_ready (rs := [16]) (by kernel_rfl) (by simp) ?_
            refine AllReadyH.cons rfl (fun K hK => ?_) (AllReadyH.nil)
            refine step_append_rd rfl (.tmp 78) (.tmp 91) 31 rfl wz.heap.size 38 i1 _ 3 32 Try.underlying31 HI1.out hy0 hy1 hy2 rfl (by decide) v3 l5.length (l5.flatMap cells3) rfl (hQ27.own _ rfl) _ 1 [.int .u8 a.x.1, .int .i64 (IntKind.i64.wrap (a.x.2.1 + (i : Int))), .string a.x.2.2] rfl (hQ27.lit _ rfl) rfl (by simp [Value.oneCell']) (by have := HLE.out; unfold maxLen; omega) (by have := HLE.out; omega) hQ27.bel.size ?_
            intro v31 W29 hown hgr hat
            have hQ30 := hQ27.app hown hgr
            clear hown hgr hat
            refine hK.out _ _ ?_ (fun hH => ?_)
            · exact hQ30.bel
            clear hK K
            refine wpAnyH_ready (rs := [18]) (by kernel_rfl) (by simp) ?_
            refine AllReadyH.cons rfl (fun K hK => ?_) (AllReadyH.nil)
            obtain ⟨g2, c2, rfl, f1, f2, f3, f4, f5⟩ := hQ30.fin
            obtain ⟨k1, k2⟩ := (hQ30.box _ rfl).1.all
            go_simp
            clear k1 k2
            refine hK.out _ _ ?_ (fun hH => ?_)
            · exact f3
            clear hK K
            refine wpAnyH_done (by kernel_rfl) ?_ _
            refine NoPanic.normal ?_
            go_wp2_with fail
            go_meet
            exact ⟨_, g2, c2, rfl, f1, f2, f3, f4, f5⟩
        · go_simp
          refine hK.out _ _ ?_ (fun hH => ?_)
          · exact hQ0.bel.alloc hQ0.bel.size _
          clear hK K hH
          have hQ35 := hQ0.build 38
          simp only at hQ35
          generalize World.alloc _ _ = W34 at hQ35 ⊢
          generalize W0.heap.size = b36 at hQ35 ⊢
          refine wpAnyH_ready (rs := [2, 17]) (by kernel_rfl) (by simp) ?_
          refine AllReadyH.cons rfl (fun K hK => ?_) (AllReadyH.cons rfl (fun K hK => ?_) (AllReadyH.nil))
          · go_simp
            refine (clone_vals _ l5 _ (HR3.out.below hQ35.bel) (by have := HLE.out; omega)).mono ?_
            rintro e W37 ⟨v39, rfl, howny, hby⟩
            have hQ38 := hQ35.clone howny hby
            clear howny hby
            simp only
            refine hK.out _ _ ?_ (fun hH => ?_)
            · exact hQ38.bel
            clear hK K
            refine wpAnyH_ready (rs := [16, 17]) (by kernel_rfl) (by simp) ?_
            refine AllReadyH.cons rfl (fun K hK => ?_) (AllReadyH.cons rfl (fun K hK => ?_) (AllReadyH.nil))
            · refine step_append_rd rfl (.tmp 78) (.tmp 91) 31 rfl wz.heap.size 38 i1 _ 3 32 Try.underlying31 HI1.out hy0 hy1 hy2 rfl (by decide) v39 l5.length (l5.flatMap cells3) rfl (hQ38.own _ rfl) _ 1 [.int .u8 a.x.1, .int .i64 (IntKind.i64.wrap (a.x.2.1 + (i : Int))), .string a.x.2.2] rfl (hQ38.lit _ rfl) rfl (by simp [Value.oneCell']) (by have := HLE.out; unfold maxLen; omega) (by have := HLE.out; omega) hQ38.bel.size ?_
              intro v42 W40 hown hgr hat
              have hQ41 := hQ38.app hown hgr
              clear hown hgr hat
              refine hK.out _ _ ?_ (fun hH => ?_)
              · exact hQ41.bel
              clear hK K
              refine wpAnyH_ready (rs := [17]) (by kernel_rfl) (by simp) ?_
              refine AllReadyH.cons rfl (fun K hK => ?_) (AllReadyH.nil)
              go_simp
              refine hK.out _ _ ?_ (fun hH => ?_)
              · exact hQ41.bel.alloc hQ41.bel.size _
              clear hK K hH
              have hQ44 := hQ41.alloc
              generalize World.alloc _ _ = W43 at hQ44 ⊢
              generalize W40.heap.size = z45 at hQ44 ⊢
              refine wpAnyH_ready (rs := [18]) (by kernel_rfl) (by simp) ?_
              refine AllReadyH.cons rfl (fun K hK => ?_) (AllReadyH.nil)
              obtain ⟨g2, c2, rfl, f1, f2, f3, f4, f5⟩ := hQ44.fin
              obtain ⟨k1, k2⟩ := (hQ44.box _ rfl).1.all
              go_simp
              clear k1 k2
              refine hK.out _ _ ?_ (fun hH => ?_)
              · exact f3
              clear hK K
              refine wpAnyH_done (by kernel_rfl) ?_ _
              refine NoPanic.normal ?_
              go_wp2_with fail
              go_meet
              exact ⟨_, g2, c2, rfl, f1, f2, f3, f4, f5⟩
            · go_simp
              refine hK.out _ _ ?_ (fun hH => ?_)
              · exact hQ38.bel.alloc hQ38.bel.size _
              clear hK K hH
              have hQ49 := hQ38.alloc
              generalize World.alloc _ _ = W48 at hQ49 ⊢
              generalize W37.heap.size = z50 at hQ49 ⊢
              refine wpAnyH_ready (rs := [16]) (by kernel_rfl) (by simp) ?_
              refine AllReadyH.cons rfl (fun K hK => ?_) (AllReadyH.nil)
              refine step_append_rd rfl (.tmp 78) (.tmp 91) 31 rfl wz.heap.size 38 i1 _ 3 32 Try.underlying31 HI1.out hy0 hy1 hy2 rfl (by decide) v39 l5.length (l5.flatMap cells3) rfl (hQ49.own _ rfl) _ 1 [.int .u8 a.x.1, .int .i64 (IntKind.i64.wrap (a.x.2.1 + (i : Int))), .string a.x.2.2] rfl (hQ49.lit _ rfl) rfl (by simp [Value.oneCell']) (by have := HLE.out; unfold maxLen; omega) (by have := HLE.out; omega) hQ49.bel.size ?_
              intro v53 W51 hown hgr hat
              have hQ52 := hQ49.app hown hgr
              clear hown hgr hat
              refine hK.out _ _ ?_ (fun hH => ?_)
              · exact hQ52.bel
              clear hK K
              refine wpAnyH_ready (rs := [18]) (by kernel_rfl) (by simp) ?_
              refine AllReadyH.cons rfl (fun K hK => ?_) (AllReadyH.nil)
              obtain ⟨g2, c2, rfl, f1, f2, f3, f4, f5⟩ := hQ52.fin
              obtain ⟨k1, k2⟩ := (hQ52.box _ rfl).1.all
              go_simp
              clear k1 k2
              refine hK.out _ _ ?_ (fun hH => ?_)
              · exact f3
              clear hK K
              refine wpAnyH_done (by kernel_rfl) ?_ _
              refine NoPanic.normal ?_
              go_wp2_with fail
              go_meet
              exact ⟨_, g2, c2, rfl, f1, f2, f3, f4, f5⟩
          · go_simp
            refine hK.out _ _ ?_ (fun hH => ?_)
            · exact hQ35.bel.alloc hQ35.bel.size _
            clear hK K hH
            have hQ57 := hQ35.alloc
            generalize World.alloc _ _ = W56 at hQ57 ⊢
            generalize W34.heap.size = z58 at hQ57 ⊢
            refine wpAnyH_ready (rs := [2]) (by kernel_rfl) (by simp) ?_
            refine AllReadyH.cons rfl (fun K hK => ?_) (AllReadyH.nil)
            go_simp
            refine (clone_vals _ l5 _ (HR3.out.below hQ57.bel) (by have := HLE.out; omega)).mono ?_
            rintro e W59 ⟨v61, rfl, howny, hby⟩
            have hQ60 := hQ57.clone howny hby
            clear howny hby
            simp only
            refine hK.out _ _ ?_ (fun hH => ?_)
            · exact hQ60.bel
            clear hK K
            refine wpAnyH_ready (rs := [16]) (by kernel_rfl) (by simp) ?_
            refine AllReadyH.cons rfl (fun K hK => ?_) (AllReadyH.nil)
            refine step_append_rd rfl (.tmp 78) (.tmp 91) 31 rfl wz.heap.size 38 i1 _ 3 32 Try.underlying31 HI1.out hy0 hy1 hy2 rfl (by decide) v61 l5.length (l5.flatMap cells3) rfl (hQ60.own _ rfl) _ 1 [.int .u8 a.x.1, .int .i64 (IntKind.i64.wrap (a.x.2.1 + (i : Int))), .string a.x.2.2] rfl (hQ60.lit _ rfl) rfl (by simp [Value.oneCell']) (by have := HLE.out; unfold maxLen; omega) (by have := HLE.out; omega) hQ60.bel.size ?_
            intro v64 W62 hown hgr hat
            have hQ63 := hQ60.app hown hgr
            clear hown hgr hat
            refine hK.out _ _ ?_ (fun hH => ?_)
            · exact hQ63.bel
            clear hK K
            refine wpAnyH_ready (rs := [18]) (by kernel_rfl) (by simp) ?_
            refine AllReadyH.cons rfl (fun K hK => ?_) (AllReadyH.nil)
            obtain ⟨g2, c2, rfl, f1, f2, f3, f4, f5⟩ := hQ63.fin
            obtain ⟨k1, k2⟩ := (hQ63.box _ rfl).1.all
            go_simp
            clear k1 k2
            refine hK.out _ _ ?_ (fun hH => ?_)
            · exact f3
            clear hK K
            refine wpAnyH_done (by kernel_rfl) ?_ _
            refine NoPanic.normal ?_
            go_wp2_with fail
            go_meet
            exact ⟨_, g2, c2, rfl, f1, f2, f3, f4, f5⟩
        · go_simp
          refine hK.out _ _ ?_ (fun hH => ?_)
          · exact hQ0.bel.alloc hQ0.bel.size _
          clear hK K hH
          have hQ68 := hQ0.alloc
          generalize World.alloc _ _ = W67 at hQ68 ⊢
          generalize W0.heap.size = z69 at hQ68 ⊢
          refine wpAnyH_ready (rs := [2, 15]) (by kernel_rfl) (by simp) ?_
          refine AllReadyH.cons rfl (fun K hK => ?_) (AllReadyH.cons rfl (fun K hK => ?_) (AllReadyH.nil))
          · go_simp
            refine (clone_vals _ l5 _ (HR3.out.below hQ68.bel) (by have := HLE.out; omega)).mono ?_
            rintro e W70 ⟨v72, rfl, howny, hby⟩
            have hQ71 := hQ68.clone howny hby
            clear howny hby
            simp only
            refine hK.out _ _ ?_ (fun hH => ?_)
            · exact hQ71.bel
            clear hK K
            refine wpAnyH_ready (rs := [15]) (by kernel_rfl) (by simp) ?_
            refine AllReadyH.cons rfl (fun K hK => ?_) (AllReadyH.nil)
            go_simp
            refine hK.out _ _ ?_ (fun hH => ?_)
            · exact hQ71.bel.alloc hQ71.bel.size _
            clear hK K hH
            have hQ74 := hQ71.build 38
            simp only at hQ74
            generalize World.alloc _ _ = W73 at hQ74 ⊢
            generalize W70.heap.size = b75 at hQ74 ⊢
            refine wpAnyH_ready (rs := [16]) (by kernel_rfl) (by simp) ?_
            refine AllReadyH.cons rfl (fun K hK => ?_) (AllReadyH.nil)
            refine step_append_rd rfl (.tmp 78) (.tmp 91) 31 rfl wz.heap.size 38 i1 _ 3 32 Try.underlying31 HI1.out hy0 hy1 hy2 rfl (by decide) v72 l5.length (l5.flatMap cells3) rfl (hQ74.own _ rfl) _ 1 [.int .u8 a.x.1, .int .i64 (IntKind.i64.wrap (a.x.2.1 + (i : Int))), .string a.x.2.2] rfl (hQ74.lit _ rfl) rfl (by simp [Value.oneCell']) (by have := HLE.out; unfold maxLen; omega) (by have := HLE.out; omega) hQ74.bel.size ?_
            intro v78 W76 hown hgr hat
            have hQ77 := hQ74.app hown hgr
            clear hown hgr hat
            refine hK.out _ _ ?_ (fun hH => ?_)
            · exact hQ77.bel
            clear hK K
            refine wpAnyH_ready (rs := [18]) (by kernel_rfl) (by simp) ?_
            refine AllReadyH.cons rfl (fun K hK => ?_) (AllReadyH.nil)
            obtain ⟨g2, c2, rfl, f1, f2, f3, f4, f5⟩ := hQ77.fin
            obtain ⟨k1, k2⟩ := (hQ77.box _ rfl).1.all
            go_simp
            clear k1 k2
            refine hK.out _ _ ?_ (fun hH => ?_)
            · exact f3
            clear hK K
            refine wpAnyH_done (by kernel_rfl) ?_ _
            refine NoPanic.normal ?_
            go_wp2_with fail
            go_meet
            exact ⟨_, g2, c2, rfl, f1, f2, f3, f4, f5⟩
          · go_simp
            refine hK.out _ _ ?_ (fun hH => ?_)
            · exact hQ68.bel.alloc hQ68.bel.size _
            clear hK K hH
            have hQ82 := hQ68.build 38
            simp only at hQ82
            generalize World.alloc _ _ = W81 at hQ82 ⊢
            generalize W67.heap.size = b83 at hQ82 ⊢
            refine wpAnyH_ready (rs := [2]) (by kernel_rfl) (by simp) ?_
            refine AllReadyH.cons rfl (fun K hK => ?_) (AllReadyH.nil)
            go_simp
            refine (clone_vals _ l5 _ (HR3.out.below hQ82.bel) (by have := HLE.out; omega)).mono ?_
            rintro e W84 ⟨v86, rfl, howny, hby⟩
            have hQ85 := hQ82.clone howny hby
            clear howny hby
            simp only
            refine hK.out _ _ ?_ (fun hH => ?_)
            · exact hQ85.bel
            clear hK K
            refine wpAnyH_ready (rs := [16]) (by kernel_rfl) (by simp) ?_
            refine AllReadyH.cons rfl (fun K hK => ?_) (AllReadyH.nil)
            refine step_append_rd rfl (.tmp 78) (.tmp 91) 31 rfl wz.heap.size 38 i1 _ 3 32 Try.underlying31 HI1.out hy0 hy1 hy2 rfl (by decide) v86 l5.length (l5.flatMap cells3) rfl (hQ85.own _ rfl) _ 1 [.int .u8 a.x.1, .int .i64 (IntKind.i64.wrap (a.x.2.1 + (i : Int))), .string a.x.2.2] rfl (hQ85.lit _ rfl) rfl (by simp [Value.oneCell']) (by have := HLE.out; unfold maxLen; omega) (by have := HLE.out; omega) hQ85.bel.size ?_
            intro v89 W87 hown hgr hat
            have hQ88 := hQ85.app hown hgr
            clear hown hgr hat
            refine hK.out _ _ ?_ (fun hH => ?_)
            · exact hQ88.bel
            clear hK K
            refine wpAnyH_ready (rs := [18]) (by kernel_rfl) (by simp) ?_
            refine AllReadyH.cons rfl (fun K hK => ?_) (AllReadyH.nil)
            obtain ⟨g2, c2, rfl, f1, f2, f3, f4, f5⟩ := hQ88.fin
            obtain ⟨k1, k2⟩ := (hQ88.box _ rfl).1.all
            go_simp
            clear k1 k2
            refine hK.out _ _ ?_ (fun hH => ?_)
            · exact f3
            clear hK K
            refine wpAnyH_done (by kernel_rfl) ?_ _
            refine NoPanic.normal ?_
            go_wp2_with fail
            go_meet
            exact ⟨_, g2, c2, rfl, f1, f2, f3, f4, f5⟩
      case rest =>
        obtain ⟨z13, g2, c2, rfl, hz13, hg2, hbc, hcz, hrd⟩ := hcut
        clear q0 q1 q2 q3
        have HI4 := Lib.hid (HI3.out.below hbc)
        have HCZ := Lib.hid hcz
        have HRD := Lib.hid (show Rd wc (.slice (some ⟨g2, 0, none⟩) (l5.length + 1) c2) (l5 ++ [(a.x.1, IntKind.i64.wrap (a.x.2.1 + (i : Int)), a.x.2.2)]).length ((l5 ++ [(a.x.1, IntKind.i64.wrap (a.x.2.1 + (i : Int)), a.x.2.2)]).flatMap cells3) by rw [List.length_append]; exact hrd)
        have HGL := Lib.hid (show g2 < wc.heap.size by
          obtain ⟨y, hy⟩ : ∃ y, ((l5 ++ [(a.x.1, IntKind.i64.wrap (a.x.2.1 + (i : Int)), a.x.2.2)]).flatMap cells3)[0]? = some y := by
            cases l5 with
            | nil => exact ⟨_, rfl⟩
            | cons x l => exact ⟨_, rfl⟩
          obtain ⟨g', o', c', e1, _, h1⟩ := hrd.at hy
          simp only [Value.slice.injEq, Option.some.injEq, Addr.mk.injEq, and_true] at e1
          have := World.block_lt_of_cell? _ _ h1
          simp only at this
          omega)
        have HFR := Lib.hid (show ∀ q, wz.heap.size ≤ q → ¬ F' q ∧ q ≠ g from fun q hq => ⟨fun hf => by have := HI3.out.wd.lone.ar.lt hf; omega, fun e => by have := (own_blk HI3.out.wd.all g rfl).2; omega⟩)
        have hq3 := (HC5.out.below hbc).c3
        have hzc := HI4.out.ca
        have HC6 := Lib.hid (HC5.out.below hbc)
        have HZ13 := Lib.hid hz13
        have HG2 := Lib.hid hg2
        clear hrd hz13 hg2 hbc
        by_cases h4 : (1024 : Int) ≤ (l5.length : Int)
        all_goals
          go_wp2_with fail
          refine (vchange_n k ⟨⟨vn, vr, vt⟩, l5, .slice A5 l5.length c5, ow⟩ (l5 ++ [(a.x.1, IntKind.i64.wrap (a.x.2.1 + (i : Int)), a.x.2.2)]) (.slice (some ⟨g2, 0, none⟩) (l5.length + 1) c2) _ 13 _ HI4.out.len HI4.out.wd HE2.out (by have := HEE.out.2; omega) (fun args W => by kernel_rfl) HRD.out (fun q hq => by
            have e : g2 = q := Option.some.inj hq
            rw [← e]
            exact ⟨(HFR.out g2 HG2.out).1, HGL.out, (HFR.out g2 HG2.out).2⟩) (does_push za z13 g2 0 c2 (l5.length + 1) ⟨⟨vn, vr, vt⟩, l5, .slice A5 l5.length c5, ow⟩ (a.x.1, IntKind.i64.wrap (a.x.2.1 + (i : Int)), a.x.2.2) _ _ HI4.out.wd.lone.ar HI4.out.ca HCZ.out rfl HRD.out ⟨HI4.out.nF.1, (HFR.out z13 HZ13.out).1, (HFR.out g2 HG2.out).1⟩ (holds_bound (k := k) (by rw [HI4.out.len]; have := HEE.out.2; omega)) (HI4.out.wd.lend HE2.out) HV.out (by have := HI4.out.lv; have := HB0.out; omega) (by first | exact (if_pos (by simp only; omega)).symm | exact (if_neg (by simp only; omega)).symm))).mono ?_
          rintro x w6 ⟨rfl, hdid⟩
          have HI5 := Lib.hid (HI4.out.did hdid)
          clear hdid
          go_wp2_with fail
          go_roundg (n0 - (i + 1))
          case measure => omega
          case rel =>
            obtain ⟨M2, F2, E2, h2⟩ := HI5.out
            exact ⟨i + 1, by omega, by go_num, rfl, rfl, M2, F2, E2, h2⟩
    · obtain rfl : i = n0 := by omega
      have HIN2 := Lib.hid hin
      clear hin
      go_wp2_with fail
      exact HQ.out _ _ _ _ _ _ _ _ _ _ _ _ _ _ _ _ _ _ _ _ _ _ _ _ _ _ _ _ _ _ _ _ _ _ _ _ _ _ _ _ _ _ _ _ _ _ _ _ _ _ _ _ _ _ _ _ _ _ _ _ _ _ _ _ _ _ _ _ _ _ _ _ _ _ _ _ _ _ _ _ _ _ _ _ _ _ _ _ _ _ _ _ _ _ _ _ _ _ _ _ _ _ _ _ _ _ _ _ _ _ _ _ _ _ _ _ _ _ _ _ _ _ _ _ _ _ _ _ _ _ _ _ _ _ _ _ _ _ _ _ _ _ _ _ _ _ _ _ _ _ _ _ _ _ _ _ _ _ _ _ _ _ _ _ _ _ _ _ _ _ _ _ _ _ _ _ _ _ _ _ _ _ _ _ _ _ _ _ _ _ _ _ _ _ _ ⟨rfl, HIN2.out.x2, la, rfl, hla0, by omega, HIN2.out.mid HEE.out.1 HEE.out.2 (by rw [HTK.out, ← HN0.out]; omega) hz0⟩

end Go.Proofs.Ytgkhbnkbhcginaa
