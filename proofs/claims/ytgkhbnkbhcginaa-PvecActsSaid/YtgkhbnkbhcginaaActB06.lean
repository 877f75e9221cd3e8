/- PvecActs' walk: Set and Pop -/
import Derived.Test.YtgkhbnkbhcginaaReg06
import Derived.Test.YtgkhbnkbhcginaaDelete06
import Derived.Test.YtgkhbnkbhcginaaDoes06
import Derived.Test.YtgkhbnkbhcginaaFits06
import Derived.Deep.RegionHeldLaw
import Derived.Deep.RegionHeld3
import Derived.Deep.RegionWith
import Derived.Deep.CutRange
import Derived.Deep.CutBlock
namespace Go.Proofs.Ytgkhbnkbhcginaa
set_option maxRecDepth 100000
set_option linter.unusedSimpArgs false
set_option linter.unusedVariables false
open Go.RowKit

set_option maxHeartbeats 100000000 in
set_option linter.unusedVariables false in
theorem act_k1 (w2 wx : World) (za xb g cp j k : Nat) (la : Int) (a : Ac) (l : List Ac) (E : List En) (M : Cells) (F : Nat → Prop) (e : En) (hin : In6 w2 wx w2.heap.size za xb a g cp E.length (2 * sumN (l.take j) + 602 * j) M F E) (he : E[k]? = some e) (hE : 1 ≤ E.length ∧ E.length ≤ 13)
    (hk0 : k < E.length) (hla0 : 0 ≤ la) (hla1 : la ≤ j) (hz0 : w2.heap.size ≤ za) (hlen : l.length ≤ 60) (h1 : j < l.length) (hsum : sumN l ≤ 3000) (hat : l[j]? = some a) (hfa : a.Fits) (hkd : a.kd.tmod 7 = 1) (c : Code) (hc : Try.f3.body.bind (Code.blk 2) = some c)
    (u0 u1 u2 u4 u7 u11 u12 u13 u14 u15 u16 u17 u18 u19 u20 u21 u22 u23 u24 u25 u26 u27 u28 u29 u30 u31 u32 u33 u34 u35 u36 u37 u38 u39 u40 u41 u42 u43 u44 u45 u46 u47 u48 u49 u50 u51 u52 u53 u54 u55 u56 u58 u59 u60 u61 u62 u63 u64 u65 u66 u67 u68 u69 u70 u71 u72 u73 u74 u75 u76 u77 u78 u79 u80 u81 u82 u83 u84 u85 u86 u87 u88 u89 u90 u91 u92 u93 u94 u95 u96 u97 u98 u99 u100 u101 u102 u103 u104 u105 u106 u107 u108 u109 u110 u111 u112 u113 u114 u115 u116 u117 u118 u119 u120 u121 u122 u123 u124 u125 u126 u127 u128 u129 u130 u131 u132 u133 u134 u135 u136 u137 u138 u139 u140 u141 u142 u143 u144 u145 u146 u147 u148 u149 u150 u151 u152 u153 u154 u155 u156 u157 u158 u159 u160 u161 u162 u163 u164 u165 u166 u167 u168 u169 u170 u171 u172 u173 u174 u175 u176 u177 u178 u179 u180 u181 u182 u183 u184 u185 u186 u187 u188 u189 u190 u191 u192 u193 u194 u195 u196 u197 u198 u199 u200 u201 u202 u203 u204 u205 u206 u207 u208 u209 u210 u211 u212 u213 u214 u215 u216 u217 u218 u219 u220 u221 u222 u223 u224 u225 u226 u227 u228 u229 u230 u231 u232 u233 u234 u235 u236 u237 u238 u239 u240 u241 u242 u243 u244 u245 u246 u247 u248 u249 u250 u251 u252 u253 u254 u255 u256 u257 u258 u259 u260 u261 u262 u263 u264 u265 u266 u267 : Value) (Q : Exit → Act → World → Prop)
    (hQ : ∀ (v2 v5 v6 v10 v11 v12 v13 v14 v15 v16 v17 v18 v19 v20 v57 v58 v59 v60 v61 v62 v63 v64 v65 v66 v67 v68 v69 v70 v71 v72 v73 v74 v75 v76 v77 v78 v79 v80 v81 v82 v83 v84 v85 v86 v87 v88 v89 v90 v91 v92 v93 v94 v95 v96 v97 v98 v99 v100 v101 v102 v103 v104 v105 v106 v107 v108 v109 v110 v111 v112 v113 v114 v115 v116 v117 v118 v119 v120 v121 v122 v123 v124 v125 v126 v127 v128 v129 v130 v131 v132 v133 v134 v135 v136 v137 v138 v139 v140 v141 v142 v143 v144 v145 v146 v147 v148 v149 v150 v151 v152 v153 v154 v155 v156 v157 v158 v159 v160 v161 v162 v163 v164 v165 v166 v167 v168 v169 v170 v171 v172 v173 v174 v175 v176 v177 v178 v179 v180 v181 v182 v183 v184 v185 v186 v187 v188 v189 v190 v191 v192 v193 v194 v195 v196 v197 v198 v199 v200 v201 v202 v203 v204 v205 v206 v207 v208 v209 v210 v211 v212 v213 v214 v215 v216 v217 v218 v219 v220 v221 v222 v223 v224 v225 v226 v227 v228 v229 v230 v231 v232 v233 v234 v235 v236 : Value) (W : World), (v10 = .bool true ∧ W.cell? ⟨xb, 2, none⟩ = some (.int .i64 a.n) ∧ ∃ la' : Int, v6 = .int .u32 la' ∧ 0 ≤ la' ∧ la' ≤ (j + 1 : Nat) ∧ Mid w2 w2.heap.size za l (j + 1) v5 W) → Q .normal ⟨#[u0, u1, v2, .pointer (some ⟨za, 0, none⟩), u4, v5, v6, u7, .pointer (some ⟨xb, 0, none⟩), .int .i64 (k : Nat), v10, v11, v12, v13, v14, v15, v16, v17, v18, v19, v20, u21, u22, u23, u24, u25, u26, u27, u28, u29, u30, u31, u32, u33, u34, u35, u36, u37, u38, u39, u40, u41, u42, u43, u44, u45, u46, u47, u48, u49, u50, u51, u52, u53, u54, u55, u56, v57, v58, v59, v60, v61, v62, v63, v64, v65, v66, v67, v68, v69, v70, v71, v72, v73, v74, v75, v76, v77, v78, v79, v80, v81, v82, v83, v84, v85, v86, v87, v88, v89, v90, v91, v92, v93, v94, v95, v96, v97, v98, v99, v100, v101, v102, v103, v104, v105, v106, v107, v108, v109, v110, v111, v112, v113, v114, v115, v116, v117, v118, v119, v120, v121, v122, v123, v124, v125, v126, v127, v128, v129, v130, v131, v132, v133, v134, v135, v136, v137, v138, v139, v140, v141, v142, v143, v144, v145, v146, v147, v148, v149, v150, v151, v152, v153, v154, v155, v156, v157, v158, v159, v160, v161, v162, v163, v164, v165, v166, v167, v168, v169, v170, v171, v172, v173, v174, v175, v176, v177, v178, v179, v180, v181, v182, v183, v184, v185, v186, v187, v188, v189, v190, v191, v192, v193, v194, v195, v196, v197, v198, v199, v200, v201, v202, v203, v204, v205, v206, v207, v208, v209, v210, v211, v212, v213, v214, v215, v216, v217, v218, v219, v220, v221, v222, v223, v224, v225, v226, v227, v228, v229, v230, v231, v232, v233, v234, v235, v236, u237, u238, u239, u240, u241, u242, u243, u244, u245, u246, u247, u248, u249, u250, u251, u252, u253, u254, u255, u256, u257, u258, u259, u260, u261, u262, u263, u264, u265, u266, u267], []⟩ W)
    (hX : ∀ (v2 v10 v11 v12 v13 v14 v15 v16 v17 v18 v19 v20 v57 v58 v59 v60 v61 v62 v63 v64 v65 v66 v67 v68 v69 v70 v71 v72 v73 v74 v75 v76 v77 v78 v79 v80 v81 v82 v83 v84 v85 v86 v87 v88 v89 v90 v91 v92 v93 v94 v95 v96 v97 v98 v99 v100 v101 v102 v103 v104 v105 v106 v107 v108 v109 v110 v111 v112 v113 v114 v115 v116 v117 v118 v119 v120 v121 v122 v123 v124 v125 v126 v127 v128 v129 v130 v131 v132 v133 v134 v135 v136 v137 v138 v139 v140 v141 v142 v143 v144 v145 v146 v147 v148 v149 v150 v151 v152 v153 v154 v155 v156 v157 v158 v159 v160 v161 v162 v163 v164 v165 v166 v167 v168 v169 v170 v171 v172 v173 v174 v175 v176 v177 v178 v179 v180 v181 v182 v183 v184 v185 v186 v187 v188 v189 v190 v191 v192 v193 v194 v195 v196 v197 v198 v199 v200 v201 v202 v203 v204 v205 v206 v207 v208 v209 v210 v211 v212 v213 v214 v215 v216 v217 v218 v219 v220 v221 v222 v223 v224 v225 v226 v227 v228 v229 v230 v231 v232 v233 v234 v235 v236 : Value) (W : World), Mid w2 w2.heap.size za l (j + 1) (.slice (some ⟨g, 0, none⟩) E.length cp) W → Q (.exit 1) ⟨#[u0, u1, v2, .pointer (some ⟨za, 0, none⟩), u4, .slice (some ⟨g, 0, none⟩) E.length cp, .int .u32 la, u7, .pointer (some ⟨xb, 0, none⟩), .int .i64 (k : Nat), v10, v11, v12, v13, v14, v15, v16, v17, v18, v19, v20, u21, u22, u23, u24, u25, u26, u27, u28, u29, u30, u31, u32, u33, u34, u35, u36, u37, u38, u39, u40, u41, u42, u43, u44, u45, u46, u47, u48, u49, u50, u51, u52, u53, u54, u55, u56, v57, v58, v59, v60, v61, v62, v63, v64, v65, v66, v67, v68, v69, v70, v71, v72, v73, v74, v75, v76, v77, v78, v79, v80, v81, v82, v83, v84, v85, v86, v87, v88, v89, v90, v91, v92, v93, v94, v95, v96, v97, v98, v99, v100, v101, v102, v103, v104, v105, v106, v107, v108, v109, v110, v111, v112, v113, v114, v115, v116, v117, v118, v119, v120, v121, v122, v123, v124, v125, v126, v127, v128, v129, v130, v131, v132, v133, v134, v135, v136, v137, v138, v139, v140, v141, v142, v143, v144, v145, v146, v147, v148, v149, v150, v151, v152, v153, v154, v155, v156, v157, v158, v159, v160, v161, v162, v163, v164, v165, v166, v167, v168, v169, v170, v171, v172, v173, v174, v175, v176, v177, v178, v179, v180, v181, v182, v183, v184, v185, v186, v187, v188, v189, v190, v191, v192, v193, v194, v195, v196, v197, v198, v199, v200, v201, v202, v203, v204, v205, v206, v207, v208, v209, v210, v211, v212, v213, v214, v215, v216, v217, v218, v219, v220, v221, v222, v223, v224, v225, v226, v227, v228, v229, v230, v231, v232, v233, v234, v235, v236, u237, u238, u239, u240, u241, u242, u243, u244, u245, u246, u247, u248, u249, u250, u251, u252, u253, u254, u255, u256, u257, u258, u259, u260, u261, u262, u263, u264, u265, u266, u267], []⟩ W) :
    Code.wp Try.prog c Q ⟨#[u0, u1, u2, .pointer (some ⟨za, 0, none⟩), u4, .slice (some ⟨g, 0, none⟩) E.length cp, .int .u32 la, u7, .pointer (some ⟨xb, 0, none⟩), .int .i64 (k : Nat), .bool true, u11, u12, u13, u14, u15, u16, u17, u18, u19, u20, u21, u22, u23, u24, u25, u26, u27, u28, u29, u30, u31, u32, u33, u34, u35, u36, u37, u38, u39, u40, u41, u42, u43, u44, u45, u46, u47, u48, u49, u50, u51, u52, u53, u54, u55, u56, .int .u8 (a.kd.tmod 7), u58, u59, u60, u61, u62, u63, u64, u65, u66, u67, u68, u69, u70, u71, u72, u73, u74, u75, u76, u77, u78, u79, u80, u81, u82, u83, u84, u85, u86, u87, u88, u89, u90, u91, u92, u93, u94, u95, u96, u97, u98, u99, u100, u101, u102, u103, u104, u105, u106, u107, u108, u109, u110, u111, u112, u113, u114, u115, u116, u117, u118, u119, u120, u121, u122, u123, u124, u125, u126, u127, u128, u129, u130, u131, u132, u133, u134, u135, u136, u137, u138, u139, u140, u141, u142, u143, u144, u145, u146, u147, u148, u149, u150, u151, u152, u153, u154, u155, u156, u157, u158, u159, u160, u161, u162, u163, u164, u165, u166, u167, u168, u169, u170, u171, u172, u173, u174, u175, u176, u177, u178, u179, u180, u181, u182, u183, u184, u185, u186, u187, u188, u189, u190, u191, u192, u193, u194, u195, u196, u197, u198, u199, u200, u201, u202, u203, u204, u205, u206, u207, u208, u209, u210, u211, u212, u213, u214, u215, u216, u217, u218, u219, u220, u221, u222, u223, u224, u225, u226, u227, u228, u229, u230, u231, u232, u233, u234, u235, u236, u237, u238, u239, u240, u241, u242, u243, u244, u245, u246, u247, u248, u249, u250, u251, u252, u253, u254, u255, u256, u257, u258, u259, u260, u261, u262, u263, u264, u265, u266, u267], []⟩ wx := by
  rw [show Try.f3.body.bind (Code.blk 2) = some _ from rfl] at hc
  obtain rfl := Option.some.inj hc
  clear hc
  have HIN := Lib.hid hin
  have HE := Lib.hid he
  have HEE := Lib.hid hE
  have HQ := Lib.hid hQ
  have HX := Lib.hid hX
  have HTK := Lib.hid (sumN_next hat)
  have HB0 := Lib.hid (show sumN (l.take j) ≤ 3000 from Nat.le_trans (sumN_take_le l j) hsum)
  have hz := HIN.out.ca
  have x0 := HIN.out.x0
  have x2 := HIN.out.x2
  have x3 := HIN.out.x3
  have x4 := HIN.out.x4
  have x5 := HIN.out.x5
  have y5 : (0 : Int) ≤ (k : Int) := by omega
  have y6 : (k : Int) < (E.length : Int) := by omega
  have hE1 : 1 ≤ E.length := hE.1
  have hE2 : E.length ≤ 13 := hE.2
  clear hin he hE hQ hX hsum hat hfa
  obtain ⟨at', hat'⟩ : ∃ at', at' = a.n.tmod 1100 := ⟨_, rfl⟩
  have hwt : a.n.tmod 1100 = at' := hat'.symm
  have hwt2 : IntKind.i64.wrap (a.n.tmod 1100) = at' := by
    rw [hat', IntWalk.i64_in _ (by
      have h0 := Int.tmod_lt_of_pos a.n (show (0 : Int) < 1100 by omega)
      have h1 := Int.lt_tmod_of_pos a.n (show (0 : Int) < 1100 by omega)
      omega)]
  have HAT2 := Lib.hid hat'
  have hrng : at' < 1100 ∧ -1100 < at' := by
    rw [hat']
    exact ⟨Int.tmod_lt_of_pos a.n (by omega), Int.lt_tmod_of_pos a.n (by omega)⟩
  have HWT := Lib.hid hwt
  clear hat' hwt hwt2
  have hm := List.mem_of_getElem? HE.out
  have r5 := row5 HIN.out.wd.all HE.out
  obtain ⟨a3, _⟩ := r5 3 _ (by decide) rfl
  have HV := Lib.hid (HIN.out.wd.vec e hm)
  have HR := Lib.hid (HIN.out.wd.row e hm)
  obtain ⟨A5, c5, e5, _⟩ := HR.out.form
  obtain ⟨⟨vn, vr, vt⟩, l5, s5, ow⟩ := e
  simp only at e5
  subst e5
  simp only at a3
  have HR3 := Lib.hid (show Rd wx (.slice A5 l5.length c5) l5.length (l5.flatMap cells3) from HR.out)
  have HLE := Lib.hid (show l5.length ≤ 1024 from HV.out.le)
  clear r5 hm
  go_upto_region 29 with fail
  clear hkd
  go_wp2_with fail
  refine (clone_vals _ l5 wx HR3.out (by have := HLE.out; omega)).mono ?_
  rintro x wy ⟨vy, rfl, hown, hby⟩
  have HI2 := Lib.hid (HIN.out.below hby)
  have HBY := Lib.hid hby
  have HOY := Lib.hid hown
  clear hown hby hz x0 x2 x3 x4 x5 a3
  have HL := Lib.hid (show E.length ≤ 1000 by have := HEE.out.2; omega)
  obtain ⟨A2, c2, rfl, hc2⟩ := (Rd.of_own HOY.out).form
  have x2 := HI2.out.x2
  have x3 := HI2.out.x3
  have x4 := HI2.out.x4
  have x5 := HI2.out.x5
  have hzc := HI2.out.ca
  have HS2 := Lib.hid (show ∀ q, (Value.slice A2 l5.length c2).ownBlock = some q → wx.heap.size ≤ q ∧ q < wy.heap.size from own_blk HOY.out)
  have HF2 := Lib.hid (show ∀ q, wx.heap.size ≤ q → ¬ F q ∧ q ≠ g from fun q hq => ⟨fun hf => by have := HIN.out.wd.lone.ar.lt hf; omega, fun e => by have := (own_blk HIN.out.wd.all g rfl).2; omega⟩)
  have hxl := World.block_lt_of_cell? _ _ x2
  have hzl := World.block_lt_of_cell? _ _ hzc
  simp only at hxl hzl
  go_upto_region 31 with fail
  rw [HWT.out]
  by_cases h0 : 0 ≤ at' ∧ at' < (l5.length : Int)
  · obtain ⟨i, hi⟩ : ∃ i : Nat, at' = (i : Int) := ⟨at'.toNat, by omega⟩
    have HII := Lib.hid hi
    rw [hi] at h0 ⊢
    clear hi
    have h1 := h0.1
    have h2 := h0.2
    have hil : i < l5.length := by omega
    clear h0
    obtain ⟨g2, c2', e2, _⟩ := own_form1 HOY.out (by rw [flat_len]; omega)
    simp only [Value.slice.injEq, true_and] at e2
    obtain ⟨rfl, rfl⟩ := e2
    obtain ⟨y, hy⟩ : ∃ y, l5[i]? = some y := ⟨_, List.getElem?_eq_getElem hil⟩
    obtain ⟨f0, f1, f2⟩ := flat3_at hy
    have key : ∀ q u, (l5.flatMap cells3)[q]? = some u → wy.cell? ⟨g2, q, none⟩ = some u ∧ wy.frozen? ⟨g2, q, none⟩ = false := fun q u hq => by
      obtain ⟨g', c', e1, _, h1, h2⟩ := own_at HOY.out hq
      simp only [Value.slice.injEq, Option.some.injEq, Addr.mk.injEq, and_true, true_and] at e1
      obtain ⟨rfl, _⟩ := e1
      exact ⟨h1, h2⟩
    obtain ⟨k0, z0⟩ := key _ _ f0
    obtain ⟨k1, z1⟩ := key _ _ f1
    obtain ⟨k2, z2⟩ := key _ _ f2
    clear key f0 f1 f2
    have hgl : g2 < wy.heap.size := (HS2.out g2 rfl).2
    go_upto_region 33 with fail
    obtain ⟨w5, hw5⟩ : ∃ w5, w5 = (((wy.setCell ⟨g2, i * 3, none⟩ (.int .u8 a.x.1)).setCell ⟨g2, i * 3 + 1, none⟩ (.int .i64 a.x.2.1)).setCell ⟨g2, i * 3 + 2, none⟩ (.string a.x.2.2)).alloc (.cells #[.int .i64 (i : Int)] 3) := ⟨_, rfl⟩
    rw [← hw5]
    have hk5 : Kp (fun q => q = g2) wy w5 := by rw [hw5]; exact ((((Kp.refl (fun q => q = g2) wy).setCell (.inl rfl) _).setCell (.inl rfl) _).setCell (.inl rfl) _).alloc _
    have HI5 := Lib.hid (HIN.out.below (((Kp.of_below HBY.out (fun _ => False)).trans hk5 (fun q e => .inr (by rw [e]; exact (HS2.out g2 rfl).1))).below (fun _ h => h.elim)))
    have HRD := Lib.hid (show Rd w5 (.slice (some ⟨g2, 0, none⟩) l5.length c2) (l5.set i a.x).length ((l5.set i a.x).flatMap cells3) by rw [hw5]; exact (rd_put a.x HOY.out rfl hil).alloc _)
    have HCT := Lib.hid (show w5.cell? ⟨wy.heap.size, 0, none⟩ = some (.int .i64 (i : Int)) by rw [hw5]; exact World.cell?_alloc_at _ _ _ _ (by simp [World.setCell]))
    have HSZ := Lib.hid hk5.size
    have HIL := Lib.hid hil
    clear hw5 hk5 k0 k1 k2 z0 z1 z2 hy x2 x3 x4 x5 hzc hxl hzl h1 h2 hgl hil
    have hzc := HI5.out.ca
    go_wp2_with fail
    refine (vchange_n k ⟨⟨vn, vr, vt⟩, l5, .slice A5 l5.length c5, ow⟩ (l5.set i a.x) (.slice (some ⟨g2, 0, none⟩) l5.length c2) 0 15 _ HI5.out.len HI5.out.wd HE.out HL.out (fun args W => by kernel_rfl) HRD.out (fun q hq => ⟨(HF2.out q (HS2.out q hq).1).1, Nat.lt_of_lt_of_le (HS2.out q hq).2 HSZ.out, (HF2.out q (HS2.out q hq).1).2⟩) (does_set za wy.heap.size xb ⟨⟨vn, vr, vt⟩, l5, .slice A5 l5.length c5, ow⟩ a.x (i : Int) (l5.set i a.x) 0 _ HI5.out.wd.lone.ar HI5.out.ca HCT.out HI5.out.x3 HI5.out.x4 HI5.out.x5 (holds_bound (k := k) (by rw [HI5.out.len]; exact HL.out)) (HI5.out.wd.lend HE.out) HV.out (by have := HI5.out.lv; have := HB0.out; omega) (.inl ⟨rfl, i, rfl, HIL.out, rfl⟩))).mono ?_
    rintro x w6 ⟨rfl, hdid⟩
    obtain ⟨M6, F6, E6, h6⟩ := HI5.out.did hdid
    have HI6 := Lib.hid h6
    clear hdid h6
    go_wp2_with fail
    exact HQ.out _ _ _ _ _ _ _ _ _ _ _ _ _ _ _ _ _ _ _ _ _ _ _ _ _ _ _ _ _ _ _ _ _ _ _ _ _ _ _ _ _ _ _ _ _ _ _ _ _ _ _ _ _ _ _ _ _ _ _ _ _ _ _ _ _ _ _ _ _ _ _ _ _ _ _ _ _ _ _ _ _ _ _ _ _ _ _ _ _ _ _ _ _ _ _ _ _ _ _ _ _ _ _ _ _ _ _ _ _ _ _ _ _ _ _ _ _ _ _ _ _ _ _ _ _ _ _ _ _ _ _ _ _ _ _ _ _ _ _ _ _ _ _ _ _ _ _ _ _ _ _ _ _ _ _ _ _ _ _ _ _ _ _ _ _ _ _ _ _ _ _ _ _ _ _ _ _ _ _ _ _ _ _ _ _ _ _ _ _ _ _ _ _ _ _ ⟨rfl, HI6.out.x2, la, rfl, hla0, by omega, HI6.out.mid HEE.out.1 HEE.out.2 (by rw [HTK.out]; omega) hz0⟩
  · have h0' : ¬ (0 ≤ at' ∧ at' < (l5.length : Int)) := h0
    rcases Int.lt_or_le at' 0 with hneg | hpos
    · have hneg' : ¬ (0 : Int) ≤ at' := by omega
      go_wp2_with fail
      have HI5 := Lib.hid (HI2.out.below ((Below.refl _ wy).alloc (Nat.le_refl _) (.cells #[.int .i64 at'] 3)))
      refine (vchange_n k ⟨⟨vn, vr, vt⟩, l5, .slice A5 l5.length c5, ow⟩ l5 (.slice A2 l5.length c2) 3 15 _ HI5.out.len HI5.out.wd HE.out HL.out (fun args W => by kernel_rfl) ((Rd.of_own HOY.out).alloc _) (fun q hq => ⟨(HF2.out q (HS2.out q hq).1).1, by have := (HS2.out q hq).2; simp; omega, (HF2.out q (HS2.out q hq).1).2⟩) (does_set za wy.heap.size xb ⟨⟨vn, vr, vt⟩, l5, .slice A5 l5.length c5, ow⟩ a.x at' l5 3 _ HI5.out.wd.lone.ar HI5.out.ca (World.cell?_alloc_at _ _ _ _ rfl) HI5.out.x3 HI5.out.x4 HI5.out.x5 (holds_bound (k := k) (by rw [HI5.out.len]; exact HL.out)) (HI5.out.wd.lend HE.out) HV.out (by have := HI5.out.lv; have := HB0.out; omega) (.inr ⟨rfl, by simp only; omega⟩))).mono ?_
      rintro x w6 ⟨rfl, hdid⟩
      obtain ⟨M6, F6, E6, h6⟩ := HI5.out.did hdid
      have HI6 := Lib.hid h6
      clear hdid h6
      go_wp2_with fail
      exact HQ.out _ _ _ _ _ _ _ _ _ _ _ _ _ _ _ _ _ _ _ _ _ _ _ _ _ _ _ _ _ _ _ _ _ _ _ _ _ _ _ _ _ _ _ _ _ _ _ _ _ _ _ _ _ _ _ _ _ _ _ _ _ _ _ _ _ _ _ _ _ _ _ _ _ _ _ _ _ _ _ _ _ _ _ _ _ _ _ _ _ _ _ _ _ _ _ _ _ _ _ _ _ _ _ _ _ _ _ _ _ _ _ _ _ _ _ _ _ _ _ _ _ _ _ _ _ _ _ _ _ _ _ _ _ _ _ _ _ _ _ _ _ _ _ _ _ _ _ _ _ _ _ _ _ _ _ _ _ _ _ _ _ _ _ _ _ _ _ _ _ _ _ _ _ _ _ _ _ _ _ _ _ _ _ _ _ _ _ _ _ _ _ _ _ _ _ ⟨rfl, HI6.out.x2, la, rfl, hla0, by omega, HI6.out.mid HEE.out.1 HEE.out.2 (by rw [HTK.out]; omega) hz0⟩
    · have hge : ¬ at' < (l5.length : Int) := by omega
      go_wp2_with fail
      have HI5 := Lib.hid (HI2.out.below ((Below.refl _ wy).alloc (Nat.le_refl _) (.cells #[.int .i64 at'] 3)))
      refine (vchange_n k ⟨⟨vn, vr, vt⟩, l5, .slice A5 l5.length c5, ow⟩ l5 (.slice A2 l5.length c2) 3 15 _ HI5.out.len HI5.out.wd HE.out HL.out (fun args W => by kernel_rfl) ((Rd.of_own HOY.out).alloc _) (fun q hq => ⟨(HF2.out q (HS2.out q hq).1).1, by have := (HS2.out q hq).2; simp; omega, (HF2.out q (HS2.out q hq).1).2⟩) (does_set za wy.heap.size xb ⟨⟨vn, vr, vt⟩, l5, .slice A5 l5.length c5, ow⟩ a.x at' l5 3 _ HI5.out.wd.lone.ar HI5.out.ca (World.cell?_alloc_at _ _ _ _ rfl) HI5.out.x3 HI5.out.x4 HI5.out.x5 (holds_bound (k := k) (by rw [HI5.out.len]; exact HL.out)) (HI5.out.wd.lend HE.out) HV.out (by have := HI5.out.lv; have := HB0.out; omega) (.inr ⟨rfl, by simp only; omega⟩))).mono ?_
      rintro x w6 ⟨rfl, hdid⟩
      obtain ⟨M6, F6, E6, h6⟩ := HI5.out.did hdid
      have HI6 := Lib.hid h6
      clear hdid h6
      go_wp2_with fail
      exact HQ.out _ _ _ _ _ _ _ _ _ _ _ _ _ _ _ _ _ _ _ _ _ _ _ _ _ _ _ _ _ _ _ _ _ _ _ _ _ _ _ _ _ _ _ _ _ _ _ _ _ _ _ _ _ _ _ _ _ _ _ _ _ _ _ _ _ _ _ _ _ _ _ _ _ _ _ _ _ _ _ _ _ _ _ _ _ _ _ _ _ _ _ _ _ _ _ _ _ _ _ _ _ _ _ _ _ _ _ _ _ _ _ _ _ _ _ _ _ _ _ _ _ _ _ _ _ _ _ _ _ _ _ _ _ _ _ _ _ _ _ _ _ _ _ _ _ _ _ _ _ _ _ _ _ _ _ _ _ _ _ _ _ _ _ _ _ _ _ _ _ _ _ _ _ _ _ _ _ _ _ _ _ _ _ _ _ _ _ _ _ _ _ _ _ _ _ ⟨rfl, HI6.out.x2, la, rfl, hla0, by omega, HI6.out.mid HEE.out.1 HEE.out.2 (by rw [HTK.out]; omega) hz0⟩
set_option maxHeartbeats 100000000 in
set_option linter.unusedVariables false in
theorem act_k2 (w2 wx : World) (za xb g cp j k : Nat) (la : Int) (a : Ac) (l : List Ac) (E : List En) (M : Cells) (F : Nat → Prop) (e : En) (hin : In6 w2 wx w2.heap.size za xb a g cp E.length (2 * sumN (l.take j) + 602 * j) M F E) (he : E[k]? = some e) (hE : 1 ≤ E.length ∧ E.length ≤ 13)
    (hk0 : k < E.length) (hla0 : 0 ≤ la) (hla1 : la ≤ j) (hz0 : w2.heap.size ≤ za) (hlen : l.length ≤ 60) (h1 : j < l.length) (hsum : sumN l ≤ 3000) (hat : l[j]? = some a) (hfa : a.Fits) (hkd : a.kd.tmod 7 = 2) (c : Code) (hc : Try.f3.body.bind (Code.blk 2) = some c)
    (u0 u1 u2 u4 u7 u11 u12 u13 u14 u15 u16 u17 u18 u19 u20 u21 u22 u23 u24 u25 u26 u27 u28 u29 u30 u31 u32 u33 u34 u35 u36 u37 u38 u39 u40 u41 u42 u43 u44 u45 u46 u47 u48 u49 u50 u51 u52 u53 u54 u55 u56 u58 u59 u60 u61 u62 u63 u64 u65 u66 u67 u68 u69 u70 u71 u72 u73 u74 u75 u76 u77 u78 u79 u80 u81 u82 u83 u84 u85 u86 u87 u88 u89 u90 u91 u92 u93 u94 u95 u96 u97 u98 u99 u100 u101 u102 u103 u104 u105 u106 u107 u108 u109 u110 u111 u112 u113 u114 u115 u116 u117 u118 u119 u120 u121 u122 u123 u124 u125 u126 u127 u128 u129 u130 u131 u132 u133 u134 u135 u136 u137 u138 u139 u140 u141 u142 u143 u144 u145 u146 u147 u148 u149 u150 u151 u152 u153 u154 u155 u156 u157 u158 u159 u160 u161 u162 u163 u164 u165 u166 u167 u168 u169 u170 u171 u172 u173 u174 u175 u176 u177 u178 u179 u180 u181 u182 u183 u184 u185 u186 u187 u188 u189 u190 u191 u192 u193 u194 u195 u196 u197 u198 u199 u200 u201 u202 u203 u204 u205 u206 u207 u208 u209 u210 u211 u212 u213 u214 u215 u216 u217 u218 u219 u220 u221 u222 u223 u224 u225 u226 u227 u228 u229 u230 u231 u232 u233 u234 u235 u236 u237 u238 u239 u240 u241 u242 u243 u244 u245 u246 u247 u248 u249 u250 u251 u252 u253 u254 u255 u256 u257 u258 u259 u260 u261 u262 u263 u264 u265 u266 u267 : Value) (Q : Exit → Act → World → Prop)
    (hQ : ∀ (v2 v5 v6 v10 v11 v12 v13 v14 v15 v16 v17 v18 v19 v20 v57 v58 v59 v60 v61 v62 v63 v64 v65 v66 v67 v68 v69 v70 v71 v72 v73 v74 v75 v76 v77 v78 v79 v80 v81 v82 v83 v84 v85 v86 v87 v88 v89 v90 v91 v92 v93 v94 v95 v96 v97 v98 v99 v100 v101 v102 v103 v104 v105 v106 v107 v108 v109 v110 v111 v112 v113 v114 v115 v116 v117 v118 v119 v120 v121 v122 v123 v124 v125 v126 v127 v128 v129 v130 v131 v132 v133 v134 v135 v136 v137 v138 v139 v140 v141 v142 v143 v144 v145 v146 v147 v148 v149 v150 v151 v152 v153 v154 v155 v156 v157 v158 v159 v160 v161 v162 v163 v164 v165 v166 v167 v168 v169 v170 v171 v172 v173 v174 v175 v176 v177 v178 v179 v180 v181 v182 v183 v184 v185 v186 v187 v188 v189 v190 v191 v192 v193 v194 v195 v196 v197 v198 v199 v200 v201 v202 v203 v204 v205 v206 v207 v208 v209 v210 v211 v212 v213 v214 v215 v216 v217 v218 v219 v220 v221 v222 v223 v224 v225 v226 v227 v228 v229 v230 v231 v232 v233 v234 v235 v236 : Value) (W : World), (v10 = .bool true ∧ W.cell? ⟨xb, 2, none⟩ = some (.int .i64 a.n) ∧ ∃ la' : Int, v6 = .int .u32 la' ∧ 0 ≤ la' ∧ la' ≤ (j + 1 : Nat) ∧ Mid w2 w2.heap.size za l (j + 1) v5 W) → Q .normal ⟨#[u0, u1, v2, .pointer (some ⟨za, 0, none⟩), u4, v5, v6, u7, .pointer (some ⟨xb, 0, none⟩), .int .i64 (k : Nat), v10, v11, v12, v13, v14, v15, v16, v17, v18, v19, v20, u21, u22, u23, u24, u25, u26, u27, u28, u29, u30, u31, u32, u33, u34, u35, u36, u37, u38, u39, u40, u41, u42, u43, u44, u45, u46, u47, u48, u49, u50, u51, u52, u53, u54, u55, u56, v57, v58, v59, v60, v61, v62, v63, v64, v65, v66, v67, v68, v69, v70, v71, v72, v73, v74, v75, v76, v77, v78, v79, v80, v81, v82, v83, v84, v85, v86, v87, v88, v89, v90, v91, v92, v93, v94, v95, v96, v97, v98, v99, v100, v101, v102, v103, v104, v105, v106, v107, v108, v109, v110, v111, v112, v113, v114, v115, v116, v117, v118, v119, v120, v121, v122, v123, v124, v125, v126, v127, v128, v129, v130, v131, v132, v133, v134, v135, v136, v137, v138, v139, v140, v141, v142, v143, v144, v145, v146, v147, v148, v149, v150, v151, v152, v153, v154, v155, v156, v157, v158, v159, v160, v161, v162, v163, v164, v165, v166, v167, v168, v169, v170, v171, v172, v173, v174, v175, v176, v177, v178, v179, v180, v181, v182, v183, v184, v185, v186, v187, v188, v189, v190, v191, v192, v193, v194, v195, v196, v197, v198, v199, v200, v201, v202, v203, v204, v205, v206, v207, v208, v209, v210, v211, v212, v213, v214, v215, v216, v217, v218, v219, v220, v221, v222, v223, v224, v225, v226, v227, v228, v229, v230, v231, v232, v233, v234, v235, v236, u237, u238, u239, u240, u241, u242, u243, u244, u245, u246, u247, u248, u249, u250, u251, u252, u253, u254, u255, u256, u257, u258, u259, u260, u261, u262, u263, u264, u265, u266, u267], []⟩ W)
    (hX : ∀ (v2 v10 v11 v12 v13 v14 v15 v16 v17 v18 v19 v20 v57 v58 v59 v60 v61 v62 v63 v64 v65 v66 v67 v68 v69 v70 v71 v72 v73 v74 v75 v76 v77 v78 v79 v80 v81 v82 v83 v84 v85 v86 v87 v88 v89 v90 v91 v92 v93 v94 v95 v96 v97 v98 v99 v100 v101 v102 v103 v104 v105 v106 v107 v108 v109 v110 v111 v112 v113 v114 v115 v116 v117 v118 v119 v120 v121 v122 v123 v124 v125 v126 v127 v128 v129 v130 v131 v132 v133 v134 v135 v136 v137 v138 v139 v140 v141 v142 v143 v144 v145 v146 v147 v148 v149 v150 v151 v152 v153 v154 v155 v156 v157 v158 v159 v160 v161 v162 v163 v164 v165 v166 v167 v168 v169 v170 v171 v172 v173 v174 v175 v176 v177 v178 v179 v180 v181 v182 v183 v184 v185 v186 v187 v188 v189 v190 v191 v192 v193 v194 v195 v196 v197 v198 v199 v200 v201 v202 v203 v204 v205 v206 v207 v208 v209 v210 v211 v212 v213 v214 v215 v216 v217 v218 v219 v220 v221 v222 v223 v224 v225 v226 v227 v228 v229 v230 v231 v232 v233 v234 v235 v236 : Value) (W : World), Mid w2 w2.heap.size za l (j + 1) (.slice (some ⟨g, 0, none⟩) E.length cp) W → Q (.exit 1) ⟨#[u0, u1, v2, .pointer (some ⟨za, 0, none⟩), u4, .slice (some ⟨g, 0, none⟩) E.length cp, .int .u32 la, u7, .pointer (some ⟨xb, 0, none⟩), .int .i64 (k : Nat), v10, v11, v12, v13, v14, v15, v16, v17, v18, v19, v20, u21, u22, u23, u24, u25, u26, u27, u28, u29, u30, u31, u32, u33, u34, u35, u36, u37, u38, u39, u40, u41, u42, u43, u44, u45, u46, u47, u48, u49, u50, u51, u52, u53, u54, u55, u56, v57, v58, v59, v60, v61, v62, v63, v64, v65, v66, v67, v68, v69, v70, v71, v72, v73, v74, v75, v76, v77, v78, v79, v80, v81, v82, v83, v84, v85, v86, v87, v88, v89, v90, v91, v92, v93, v94, v95, v96, v97, v98, v99, v100, v101, v102, v103, v104, v105, v106, v107, v108, v109, v110, v111, v112, v113, v114, v115, v116, v117, v118, v119, v120, v121, v122, v123, v124, v125, v126, v127, v128, v129, v130, v131, v132, v133, v134, v135, v136, v137, v138, v139, v140, v141, v142, v143, v144, v145, v146, v147, v148, v149, v150, v151, v152, v153, v154, v155, v156, v157, v158, v159, v160, v161, v162, v163, v164, v165, v166, v167, v168, v169, v170, v171, v172, v173, v174, v175, v176, v177, v178, v179, v180, v181, v182, v183, v184, v185, v186, v187, v188, v189, v190, v191, v192, v193, v194, v195, v196, v197, v198, v199, v200, v201, v202, v203, v204, v205, v206, v207, v208, v209, v210, v211, v212, v213, v214, v215, v216, v217, v218, v219, v220, v221, v222, v223, v224, v225, v226, v227, v228, v229, v230, v231, v232, v233, v234, v235, v236, u237, u238, u239, u240, u241, u242, u243, u244, u245, u246, u247, u248, u249, u250, u251, u252, u253, u254, u255, u256, u257, u258, u259, u260, u261, u262, u263, u264, u265, u266, u267], []⟩ W) :
    Code.wp Try.prog c Q ⟨#[u0, u1, u2, .pointer (some ⟨za, 0, none⟩), u4, .slice (some ⟨g, 0, none⟩) E.length cp, .int .u32 la, u7, .pointer (some ⟨xb, 0, none⟩), .int .i64 (k : Nat), .bool true, u11, u12, u13, u14, u15, u16, u17, u18, u19, u20, u21, u22, u23, u24, u25, u26, u27, u28, u29, u30, u31, u32, u33, u34, u35, u36, u37, u38, u39, u40, u41, u42, u43, u44, u45, u46, u47, u48, u49, u50, u51, u52, u53, u54, u55, u56, .int .u8 (a.kd.tmod 7), u58, u59, u60, u61, u62, u63, u64, u65, u66, u67, u68, u69, u70, u71, u72, u73, u74, u75, u76, u77, u78, u79, u80, u81, u82, u83, u84, u85, u86, u87, u88, u89, u90, u91, u92, u93, u94, u95, u96, u97, u98, u99, u100, u101, u102, u103, u104, u105, u106, u107, u108, u109, u110, u111, u112, u113, u114, u115, u116, u117, u118, u119, u120, u121, u122, u123, u124, u125, u126, u127, u128, u129, u130, u131, u132, u133, u134, u135, u136, u137, u138, u139, u140, u141, u142, u143, u144, u145, u146, u147, u148, u149, u150, u151, u152, u153, u154, u155, u156, u157, u158, u159, u160, u161, u162, u163, u164, u165, u166, u167, u168, u169, u170, u171, u172, u173, u174, u175, u176, u177, u178, u179, u180, u181, u182, u183, u184, u185, u186, u187, u188, u189, u190, u191, u192, u193, u194, u195, u196, u197, u198, u199, u200, u201, u202, u203, u204, u205, u206, u207, u208, u209, u210, u211, u212, u213, u214, u215, u216, u217, u218, u219, u220, u221, u222, u223, u224, u225, u226, u227, u228, u229, u230, u231, u232, u233, u234, u235, u236, u237, u238, u239, u240, u241, u242, u243, u244, u245, u246, u247, u248, u249, u250, u251, u252, u253, u254, u255, u256, u257, u258, u259, u260, u261, u262, u263, u264, u265, u266, u267], []⟩ wx := by
  rw [show Try.f3.body.bind (Code.blk 2) = some _ from rfl] at hc
  obtain rfl := Option.some.inj hc
  clear hc
  have HIN := Lib.hid hin
  have HE := Lib.hid he
  have HEE := Lib.hid hE
  have HQ := Lib.hid hQ
  have HX := Lib.hid hX
  have HTK := Lib.hid (sumN_next hat)
  have HB0 := Lib.hid (show sumN (l.take j) ≤ 3000 from Nat.le_trans (sumN_take_le l j) hsum)
  have hz := HIN.out.ca
  have x0 := HIN.out.x0
  have x2 := HIN.out.x2
  have x3 := HIN.out.x3
  have x4 := HIN.out.x4
  have x5 := HIN.out.x5
  have y5 : (0 : Int) ≤ (k : Int) := by omega
  have y6 : (k : Int) < (E.length : Int) := by omega
  have hE1 : 1 ≤ E.length := hE.1
  have hE2 : E.length ≤ 13 := hE.2
  clear hin he hE hQ hX hsum hat hfa
  obtain ⟨n0, hn1, hn2⟩ : ∃ n0 : Nat, wrap64 (wrap64 ((IntKind.u64.wrap a.n).tmod 300) + 1) = (n0 : Int) ∧ n0 ≤ 300 := by
    have h0 : 0 ≤ IntKind.u64.wrap a.n := by rw [IntKind.wrap_u64]; omega
    rw [Int.tmod_eq_emod_of_nonneg h0]
    have e1 : wrap64 (IntKind.u64.wrap a.n % 300) = IntKind.u64.wrap a.n % 300 := IntWalk.wrap64_in _ (by omega)
    rw [e1]
    refine ⟨((IntKind.u64.wrap a.n % 300) + 1).toNat, ?_, by omega⟩
    rw [IntWalk.wrap64_in _ (by omega)]
    omega
  have HN1 := Lib.hid hn1
  clear hn1
  go_wp2_with fail
  rw [HN1.out]
  clear hkd
  go_loopg [5, 10, 152] n0 (fun c' s5 ok i152 W => ∃ i : Nat, i + c' = n0 ∧ i152 = .int .i64 (i : Int) ∧ ok = .bool true ∧ s5 = .slice (some ⟨g, 0, none⟩) E.length cp ∧ ∃ M' F' E', In6 w2 W w2.heap.size za xb a g cp E.length (2 * sumN (l.take j) + 602 * j + 2 * i) M' F' E')
  case atStart => exact ⟨0, by omega, rfl, rfl, rfl, M, F, E, HIN.out⟩
  case round =>
    obtain ⟨i, hi, rfl, rfl, rfl, M', F', E', hin⟩ := hrel
    clear hz x0 x2 x3 x4 x5
    by_cases h3 : i < n0
    · obtain ⟨e2, he⟩ : ∃ e, E'[k]? = some e := ⟨_, List.getElem?_eq_getElem (by rw [hin.len]; exact hk0)⟩
      have hm := List.mem_of_getElem? he
      have r5 := row5 hin.wd.all he
      obtain ⟨a3, _⟩ := r5 3 _ (by decide) rfl
      have HV := Lib.hid (hin.wd.vec e2 hm)
      have HR := Lib.hid (hin.wd.row e2 hm)
      have HFR := Lib.hid (hin.wd.far e2 hm)
      have HIN2 := Lib.hid hin
      have HE2 := Lib.hid he
      obtain ⟨A5, c5, e5, hc5⟩ := HR.out.form
      have hzc := hin.ca
      clear r5 hin he hm
      obtain ⟨⟨vn, vr, vt⟩, l5, s5, ow⟩ := e2
      simp only at e5
      subst e5
      simp only at a3 hc5
      have HR3 := Lib.hid (show Rd wr (.slice A5 l5.length c5) l5.length (l5.flatMap cells3) from HR.out)
      have HLE := Lib.hid (show l5.length ≤ 1024 from HV.out.le)
      rcases List.eq_nil_or_concat l5 with hnil | hcon
      · subst hnil
        obtain ⟨m, hm⟩ : ∃ m : Nat, m = 0 := ⟨0, rfl⟩
        have HRD := Lib.hid (show Rd wr.drew (.slice A5 0 0) ([] : Vs).dropLast.length ((([] : Vs).dropLast).flatMap cells3) from rd_pre (m := 0) HR3.out rfl (Nat.zero_le _))
        simp only [List.length_nil] at a3 hc5
        clear hm
        go_upto_region 40 with fail
        go_cut [5, 10] from 153 to 188 (fun s5 ok wc => ok = .bool true ∧ s5 = .slice (some ⟨g, 0, none⟩) E.length cp ∧ ∃ M2 F2 E2, In6 w2 wc w2.heap.size za xb a g cp E.length (2 * sumN (l.take j) + 602 * j + 2 * i + 2) M2 F2 E2)
        case first =>
          have HI3 := Lib.hid (HIN2.out.below (Below.refl _ wr).drew)
          have hzd : wr.drew.cell? ⟨za, 0, none⟩ = some (ap w2.heap.size) := hzc
          refine wp_region_noPanic ?_
          refine wp_region_held_drew (S := fun W' => W'.cell? ⟨za, 0, none⟩ = some (ap w2.heap.size)) (by kernel_rfl) hzd (fun hH => ?_)
          refine wpAnyH_take (i := 0) (v := ?_) rfl (by kernel_rfl) (by kernel_rfl) (by kernel_rfl) (fun _ _ _ h => h) (Or.inl ⟨by rfl, ?_⟩) hH ?_
          rotate_left
          · intro W' hS
            go_simp
            with_reducible rfl
          simp only [Act.put, List.setIfInBounds_toArray, List.set_cons_zero, List.set_cons_succ, List.getElem_toArray, List.getElem_cons_zero, List.getElem_cons_succ]
          refine wpAnyH_take (i := 1) (v := ?_) rfl (by kernel_rfl) (by kernel_rfl) (by kernel_rfl) (fun _ _ _ h => h) (Or.inl ⟨by rfl, ?_⟩) hH ?_
          rotate_left
          · intro W' hS
            go_simp
            with_reducible rfl
          simp only [Act.put, List.setIfInBounds_toArray, List.set_cons_zero, List.set_cons_succ, List.getElem_toArray, List.getElem_cons_zero, List.getElem_cons_succ]
          refine wpAnyH_take (i := 2) (v := ?_) rfl (by kernel_rfl) (by kernel_rfl) (by kernel_rfl) (fun _ _ _ h => h) (Or.inl ⟨by rfl, ?_⟩) hH ?_
          rotate_left
          · intro W' hS
            go_simp
            with_reducible rfl
          simp only [Act.put, List.setIfInBounds_toArray, List.set_cons_zero, List.set_cons_succ, List.getElem_toArray, List.getElem_cons_zero, List.getElem_cons_succ]
          refine wpAnyH_take (i := 3) (v := ?_) rfl (by kernel_rfl) (by kernel_rfl) (by kernel_rfl) (fun _ _ _ h => h) (Or.inl ⟨by rfl, ?_⟩) hH ?_
          rotate_left
          · intro W' hS
            go_simp
            with_reducible rfl
          simp only [Act.put, List.setIfInBounds_toArray, List.set_cons_zero, List.set_cons_succ, List.getElem_toArray, List.getElem_cons_zero, List.getElem_cons_succ]
          refine wpAnyH_take (i := 4) (v := ?_) rfl (by kernel_rfl) (by kernel_rfl) (by kernel_rfl) (fun _ _ _ h => h) (Or.inl ⟨by rfl, ?_⟩) hH ?_
          rotate_left
          · intro W' hS
            go_simp
            with_reducible rfl
          simp only [Act.put, List.setIfInBounds_toArray, List.set_cons_zero, List.set_cons_succ, List.getElem_toArray, List.getElem_cons_zero, List.getElem_cons_succ]
          refine wpAnyH_take (i := 5) (v := ?_) rfl (by kernel_rfl) (by kernel_rfl) (by kernel_rfl) (fun _ _ _ h => h) (Or.inl ⟨by rfl, ?_⟩) hH ?_
          rotate_left
          · intro W' hS
            go_simp
            with_reducible rfl
          simp only [Act.put, List.setIfInBounds_toArray, List.set_cons_zero, List.set_cons_succ, List.getElem_toArray, List.getElem_cons_zero, List.getElem_cons_succ]
          refine wpAnyH_take (i := 6) (v := ?_) rfl (by kernel_rfl) (by kernel_rfl) (by kernel_rfl) (fun _ _ _ h => h) (Or.inl ⟨by rfl, ?_⟩) hH ?_
          rotate_left
          · intro W' hS
            go_simp
            with_reducible rfl
          simp only [Act.put, List.setIfInBounds_toArray, List.set_cons_zero, List.set_cons_succ, List.getElem_toArray, List.getElem_cons_zero, List.getElem_cons_succ]
          refine wpAnyH_take (i := 7) (v := ?_) rfl (by kernel_rfl) (by kernel_rfl) (by kernel_rfl) (fun _ _ _ h => h) (Or.inl ⟨by rfl, ?_⟩) hH ?_
          rotate_left
          · intro W' hS
            go_simp
            with_reducible rfl
          simp only [Act.put, List.setIfInBounds_toArray, List.set_cons_zero, List.set_cons_succ, List.getElem_toArray, List.getElem_cons_zero, List.getElem_cons_succ]
          refine wpAnyH_take (i := 9) (v := ?_) rfl (by kernel_rfl) (by kernel_rfl) (by kernel_rfl) (fun _ _ _ h => h) (Or.inl ⟨by rfl, ?_⟩) hH ?_
          rotate_left
          · intro W' hS
            go_simp
            with_reducible rfl
          simp only [Act.put, List.setIfInBounds_toArray, List.set_cons_zero, List.set_cons_succ, List.getElem_toArray, List.getElem_cons_zero, List.getElem_cons_succ]
          refine wpAnyH_take (i := 10) (v := ?_) rfl (by kernel_rfl) (by kernel_rfl) (by kernel_rfl) (fun _ _ _ h => h) (Or.inl ⟨by rfl, ?_⟩) hH ?_
          rotate_left
          · intro W' hS
            go_simp
            with_reducible rfl
          simp only [Act.put, List.setIfInBounds_toArray, List.set_cons_zero, List.set_cons_succ, List.getElem_toArray, List.getElem_cons_zero, List.getElem_cons_succ]
          refine wpAnyH_take (i := 12) (v := ?_) rfl (by kernel_rfl) (by kernel_rfl) (by kernel_rfl) (fun _ _ _ h => h) (Or.inl ⟨by rfl, ?_⟩) hH ?_
          rotate_left
          · intro W' hS
            go_simp
            with_reducible rfl
          simp only [Act.put, List.setIfInBounds_toArray, List.set_cons_zero, List.set_cons_succ, List.getElem_toArray, List.getElem_cons_zero, List.getElem_cons_succ]
          refine wpAnyH_ready (rs := [8]) (by kernel_rfl) (by simp) ?_
          refine AllReadyH.cons rfl (fun K hK => ?_) AllReadyH.nil
          go_simp
          refine hK.out _ _ ?_ (fun hH => ?_)
          · exact hzd
          clear hK K
          refine wpAnyH_take (i := 11) (v := ?_) rfl (by kernel_rfl) (by kernel_rfl) (by kernel_rfl) (fun _ _ _ h => h) (Or.inl ⟨by rfl, ?_⟩) hH ?_
          rotate_left
          · intro W' hS
            go_simp
            with_reducible rfl
          simp only [Act.put, List.setIfInBounds_toArray, List.set_cons_zero, List.set_cons_succ, List.getElem_toArray, List.getElem_cons_zero, List.getElem_cons_succ]
          refine wpAnyH_ready (rs := [13]) (by kernel_rfl) (by simp) ?_
          refine AllReadyH.cons rfl (fun K hK => ?_) AllReadyH.nil
          go_simp
          refine (vchange_n k ⟨⟨vn, vr, vt⟩, ([] : Vs), .slice A5 ([] : Vs).length c5, ow⟩ ([] : Vs).dropLast (.slice A5 0 0) _ 17 _ HI3.out.len HI3.out.wd HE2.out (by have := HEE.out.2; omega) (fun args W => by kernel_rfl) HRD.out (fun q hq => by
            have h7 := HFR.out q ((own_pre A5 ([] : Vs).length c5 0 0).symm.trans hq)
            exact ⟨h7.1, h7.2.1, fun e => h7.2.2 (by rw [e]; rfl)⟩) (does_pop za ⟨⟨vn, vr, vt⟩, ([] : Vs), .slice A5 ([] : Vs).length c5, ow⟩ _ _ HI3.out.wd.lone.ar HI3.out.ca (holds_bound (k := k) (by rw [HI3.out.len]; have := HEE.out.2; omega)) (HI3.out.wd.lend HE2.out) HV.out (by have := HI3.out.lv; have := HB0.out; omega) rfl)).mono ?_
          rintro x w6 ⟨rfl, hdid⟩
          obtain ⟨M6, F6, E6, h6⟩ := HI3.out.did hdid
          simp only
          refine hK.out _ _ ?_ (fun hH => ?_)
          · exact h6.ca
          clear hK K hH hdid
          have hH := h6.ca
          have HI6 := Lib.hid h6
          clear h6
          refine wpAnyH_take (i := 14) (v := ?_) rfl (by kernel_rfl) (by kernel_rfl) (by kernel_rfl) (fun _ _ _ h => h) (Or.inl ⟨by rfl, ?_⟩) hH ?_
          rotate_left
          · intro W' hS
            go_simp
            with_reducible rfl
          simp only [Act.put, List.setIfInBounds_toArray, List.set_cons_zero, List.set_cons_succ, List.getElem_toArray, List.getElem_cons_zero, List.getElem_cons_succ]
          refine wpAnyH_take (i := 15) (v := ?_) rfl (by kernel_rfl) (by kernel_rfl) (by kernel_rfl) (fun _ _ _ h => h) (Or.inl ⟨by rfl, ?_⟩) hH ?_
          rotate_left
          · intro W' hS
            go_simp
            with_reducible rfl
          simp only [Act.put, List.setIfInBounds_toArray, List.set_cons_zero, List.set_cons_succ, List.getElem_toArray, List.getElem_cons_zero, List.getElem_cons_succ]
          refine wpAnyH_take (i := 16) (v := ?_) rfl (by kernel_rfl) (by kernel_rfl) (by kernel_rfl) (fun _ _ _ h => h) (Or.inl ⟨by rfl, ?_⟩) hH ?_
          rotate_left
          · intro W' hS
            go_simp
            with_reducible rfl
          simp only [Act.put, List.setIfInBounds_toArray, List.set_cons_zero, List.set_cons_succ, List.getElem_toArray, List.getElem_cons_zero, List.getElem_cons_succ]
          refine wpAnyH_take (i := 17) (v := ?_) rfl (by kernel_rfl) (by kernel_rfl) (by kernel_rfl) (fun _ _ _ h => h) (Or.inl ⟨by rfl, ?_⟩) hH ?_
          rotate_left
          · intro W' hS
            go_simp
            with_reducible rfl
          simp only [Act.put, List.setIfInBounds_toArray, List.set_cons_zero, List.set_cons_succ, List.getElem_toArray, List.getElem_cons_zero, List.getElem_cons_succ]
          refine wpAnyH_take (i := 18) (v := ?_) rfl (by kernel_rfl) (by kernel_rfl) (by kernel_rfl) (fun _ _ _ h => h) (Or.inl ⟨by rfl, ?_⟩) hH ?_
          rotate_left
          · intro W' hS
            go_simp
            with_reducible rfl
          simp only [Act.put, List.setIfInBounds_toArray, List.set_cons_zero, List.set_cons_succ, List.getElem_toArray, List.getElem_cons_zero, List.getElem_cons_succ]
          refine wpAnyH_done (by kernel_rfl) ?_ _
          refine NoPanic.normal ?_
          go_wp2_with fail
          go_meet
          exact ⟨rfl, rfl, M6, F6, E6, HI6.out⟩
        case rest =>
          obtain ⟨rfl, rfl, M6, F6, E6, h6⟩ := hcut
          have HI6 := Lib.hid h6
          clear h6 a3 hzc
          go_wp2_with fail
          go_roundg (n0 - (i + 1))
          case measure => omega
          case rel => exact ⟨i + 1, by omega, by go_num, rfl, rfl, M6, F6, E6, HI6.out⟩
      · obtain ⟨m, hm⟩ : ∃ m, l5.length = m + 1 := by
          obtain ⟨t, x, e⟩ := hcon
          exact ⟨t.length, by rw [e]; simp⟩
        have hne : l5 ≠ [] := by rintro rfl; simp at hm
        have HNE := Lib.hid hne
        have hI : wrap64 ((l5.length : Int) - 1) = (m : Int) := by
          rw [IntWalk.wrap64_in _ (by have := HLE.out; omega)]
          omega
        have hm0 : ¬ (m : Int) < 0 := by omega
        have hl0 : ¬ (l5.length : Int) = 0 := by omega
        have hmc : m ≤ c5 := by omega
        have hmc2 : (m : Int) ≤ (c5 : Int) := by omega
        have hmm : (0 : Int) ≤ (m : Int) := by omega
        have HRD := Lib.hid (show Rd wr.drew (.slice A5 m m) l5.dropLast.length (l5.dropLast.flatMap cells3) by
          rw [List.dropLast_eq_take, show l5.length - 1 = m by omega]
          exact rd_pre HR3.out rfl (by omega))
        clear hcon hne hm
        go_upto_region 40 with fail
        go_cut [5, 10] from 153 to 188 (fun s5 ok wc => ok = .bool true ∧ s5 = .slice (some ⟨g, 0, none⟩) E.length cp ∧ ∃ M2 F2 E2, In6 w2 wc w2.heap.size za xb a g cp E.length (2 * sumN (l.take j) + 602 * j + 2 * i + 2) M2 F2 E2)
        case first =>
          have HI3 := Lib.hid (HIN2.out.below (Below.refl _ wr).drew)
          have hzd : wr.drew.cell? ⟨za, 0, none⟩ = some (ap w2.heap.size) := hzc
          refine wp_region_noPanic ?_
          refine wp_region_held_drew (S := fun W' => W'.cell? ⟨za, 0, none⟩ = some (ap w2.heap.size)) (by kernel_rfl) hzd (fun hH => ?_)
          refine wpAnyH_take (i := 0) (v := ?_) rfl (by kernel_rfl) (by kernel_rfl) (by kernel_rfl) (fun _ _ _ h => h) (Or.inl ⟨by rfl, ?_⟩) hH ?_
          rotate_left
          · intro W' hS
            go_simp
            with_reducible rfl
          simp only [Act.put, List.setIfInBounds_toArray, List.set_cons_zero, List.set_cons_succ, List.getElem_toArray, List.getElem_cons_zero, List.getElem_cons_succ]
          refine wpAnyH_take (i := 1) (v := ?_) rfl (by kernel_rfl) (by kernel_rfl) (by kernel_rfl) (fun _ _ _ h => h) (Or.inl ⟨by rfl, ?_⟩) hH ?_
          rotate_left
          · intro W' hS
            go_simp
            with_reducible rfl
          simp only [Act.put, List.setIfInBounds_toArray, List.set_cons_zero, List.set_cons_succ, List.getElem_toArray, List.getElem_cons_zero, List.getElem_cons_succ]
          refine wpAnyH_take (i := 2) (v := ?_) rfl (by kernel_rfl) (by kernel_rfl) (by kernel_rfl) (fun _ _ _ h => h) (Or.inl ⟨by rfl, ?_⟩) hH ?_
          rotate_left
          · intro W' hS
            go_simp
            with_reducible rfl
          simp only [Act.put, List.setIfInBounds_toArray, List.set_cons_zero, List.set_cons_succ, List.getElem_toArray, List.getElem_cons_zero, List.getElem_cons_succ]
          refine wpAnyH_take (i := 3) (v := ?_) rfl (by kernel_rfl) (by kernel_rfl) (by kernel_rfl) (fun _ _ _ h => h) (Or.inl ⟨by rfl, ?_⟩) hH ?_
          rotate_left
          · intro W' hS
            go_simp
            with_reducible rfl
          simp only [Act.put, List.setIfInBounds_toArray, List.set_cons_zero, List.set_cons_succ, List.getElem_toArray, List.getElem_cons_zero, List.getElem_cons_succ]
          refine wpAnyH_take (i := 4) (v := ?_) rfl (by kernel_rfl) (by kernel_rfl) (by kernel_rfl) (fun _ _ _ h => h) (Or.inl ⟨by rfl, ?_⟩) hH ?_
          rotate_left
          · intro W' hS
            go_simp
            with_reducible rfl
          simp only [Act.put, List.setIfInBounds_toArray, List.set_cons_zero, List.set_cons_succ, List.getElem_toArray, List.getElem_cons_zero, List.getElem_cons_succ]
          refine wpAnyH_take (i := 5) (v := ?_) rfl (by kernel_rfl) (by kernel_rfl) (by kernel_rfl) (fun _ _ _ h => h) (Or.inl ⟨by rfl, ?_⟩) hH ?_
          rotate_left
          · intro W' hS
            go_simp
            with_reducible rfl
          simp only [Act.put, List.setIfInBounds_toArray, List.set_cons_zero, List.set_cons_succ, List.getElem_toArray, List.getElem_cons_zero, List.getElem_cons_succ]
          refine wpAnyH_take (i := 6) (v := ?_) rfl (by kernel_rfl) (by kernel_rfl) (by kernel_rfl) (fun _ _ _ h => h) (Or.inl ⟨by rfl, ?_⟩) hH ?_
          rotate_left
          · intro W' hS
            go_simp
            with_reducible rfl
          simp only [Act.put, List.setIfInBounds_toArray, List.set_cons_zero, List.set_cons_succ, List.getElem_toArray, List.getElem_cons_zero, List.getElem_cons_succ]
          refine wpAnyH_take (i := 7) (v := ?_) rfl (by kernel_rfl) (by kernel_rfl) (by kernel_rfl) (fun _ _ _ h => h) (Or.inl ⟨by rfl, ?_⟩) hH ?_
          rotate_left
          · intro W' hS
            go_simp
            with_reducible rfl
          simp only [Act.put, List.setIfInBounds_toArray, List.set_cons_zero, List.set_cons_succ, List.getElem_toArray, List.getElem_cons_zero, List.getElem_cons_succ]
          refine wpAnyH_take (i := 9) (v := ?_) rfl (by kernel_rfl) (by kernel_rfl) (by kernel_rfl) (fun _ _ _ h => h) (Or.inl ⟨by rfl, ?_⟩) hH ?_
          rotate_left
          · intro W' hS
            go_simp
            with_reducible rfl
          simp only [Act.put, List.setIfInBounds_toArray, List.set_cons_zero, List.set_cons_succ, List.getElem_toArray, List.getElem_cons_zero, List.getElem_cons_succ]
          refine wpAnyH_take (i := 10) (v := ?_) rfl (by kernel_rfl) (by kernel_rfl) (by kernel_rfl) (fun _ _ _ h => h) (Or.inl ⟨by rfl, ?_⟩) hH ?_
          rotate_left
          · intro W' hS
            go_simp
            with_reducible rfl
          simp only [Act.put, List.setIfInBounds_toArray, List.set_cons_zero, List.set_cons_succ, List.getElem_toArray, List.getElem_cons_zero, List.getElem_cons_succ]
          refine wpAnyH_take (i := 12) (v := ?_) rfl (by kernel_rfl) (by kernel_rfl) (by kernel_rfl) (fun _ _ _ h => h) (Or.inl ⟨by rfl, ?_⟩) hH ?_
          rotate_left
          · intro W' hS
            go_simp
            with_reducible rfl
          simp only [Act.put, List.setIfInBounds_toArray, List.set_cons_zero, List.set_cons_succ, List.getElem_toArray, List.getElem_cons_zero, List.getElem_cons_succ]
          refine wpAnyH_ready (rs := [8]) (by kernel_rfl) (by simp) ?_
          refine AllReadyH.cons rfl (fun K hK => ?_) AllReadyH.nil
          go_simp
          refine hK.out _ _ ?_ (fun hH => ?_)
          · exact hzd
          clear hK K
          refine wpAnyH_take (i := 11) (v := ?_) rfl (by kernel_rfl) (by kernel_rfl) (by kernel_rfl) (fun _ _ _ h => h) (Or.inl ⟨by rfl, ?_⟩) hH ?_
          rotate_left
          · intro W' hS
            go_simp
            with_reducible rfl
          simp only [Act.put, List.setIfInBounds_toArray, List.set_cons_zero, List.set_cons_succ, List.getElem_toArray, List.getElem_cons_zero, List.getElem_cons_succ]
          refine wpAnyH_ready (rs := [13]) (by kernel_rfl) (by simp) ?_
          refine AllReadyH.cons rfl (fun K hK => ?_) AllReadyH.nil
          go_simp
          refine (vchange_n k ⟨⟨vn, vr, vt⟩, l5, .slice A5 l5.length c5, ow⟩ l5.dropLast (.slice A5 m m) _ 17 _ HI3.out.len HI3.out.wd HE2.out (by have := HEE.out.2; omega) (fun args W => by kernel_rfl) HRD.out (fun q hq => by
            have h7 := HFR.out q ((own_pre A5 l5.length c5 m m).symm.trans hq)
            exact ⟨h7.1, h7.2.1, fun e => h7.2.2 (by rw [e]; rfl)⟩) (does_pop za ⟨⟨vn, vr, vt⟩, l5, .slice A5 l5.length c5, ow⟩ _ _ HI3.out.wd.lone.ar HI3.out.ca (holds_bound (k := k) (by rw [HI3.out.len]; have := HEE.out.2; omega)) (HI3.out.wd.lend HE2.out) HV.out (by have := HI3.out.lv; have := HB0.out; omega) (if_neg HNE.out).symm)).mono ?_
          rintro x w6 ⟨rfl, hdid⟩
          obtain ⟨M6, F6, E6, h6⟩ := HI3.out.did hdid
          simp only
          refine hK.out _ _ ?_ (fun hH => ?_)
          · exact h6.ca
          clear hK K hH hdid
          have hH := h6.ca
          have HI6 := Lib.hid h6
          clear h6
          refine wpAnyH_take (i := 14) (v := ?_) rfl (by kernel_rfl) (by kernel_rfl) (by kernel_rfl) (fun _ _ _ h => h) (Or.inl ⟨by rfl, ?_⟩) hH ?_
          rotate_left
          · intro W' hS
            go_simp
            with_reducible rfl
          simp only [Act.put, List.setIfInBounds_toArray, List.set_cons_zero, List.set_cons_succ, List.getElem_toArray, List.getElem_cons_zero, List.getElem_cons_succ]
          refine wpAnyH_take (i := 15) (v := ?_) rfl (by kernel_rfl) (by kernel_rfl) (by kernel_rfl) (fun _ _ _ h => h) (Or.inl ⟨by rfl, ?_⟩) hH ?_
          rotate_left
          · intro W' hS
            go_simp
            with_reducible rfl
          simp only [Act.put, List.setIfInBounds_toArray, List.set_cons_zero, List.set_cons_succ, List.getElem_toArray, List.getElem_cons_zero, List.getElem_cons_succ]
          refine wpAnyH_take (i := 16) (v := ?_) rfl (by kernel_rfl) (by kernel_rfl) (by kernel_rfl) (fun _ _ _ h => h) (Or.inl ⟨by rfl, ?_⟩) hH ?_
          rotate_left
          · intro W' hS
            go_simp
            with_reducible rfl
          simp only [Act.put, List.setIfInBounds_toArray, List.set_cons_zero, List.set_cons_succ, List.getElem_toArray, List.getElem_cons_zero, List.getElem_cons_succ]
          refine wpAnyH_take (i := 17) (v := ?_) rfl (by kernel_rfl) (by kernel_rfl) (by kernel_rfl) (fun _ _ _ h => h) (Or.inl ⟨by rfl, ?_⟩) hH ?_
          rotate_left
          · intro W' hS
            go_simp
            with_reducible rfl
          simp only [Act.put, List.setIfInBounds_toArray, List.set_cons_zero, List.set_cons_succ, List.getElem_toArray, List.getElem_cons_zero, List.getElem_cons_succ]
          refine wpAnyH_take (i := 18) (v := ?_) rfl (by kernel_rfl) (by kernel_rfl) (by kernel_rfl) (fun _ _ _ h => h) (Or.inl ⟨by rfl, ?_⟩) hH ?_
          rotate_left
          · intro W' hS
            go_simp
            with_reducible rfl
          simp only [Act.put, List.setIfInBounds_toArray, List.set_cons_zero, List.set_cons_succ, List.getElem_toArray, List.getElem_cons_zero, List.getElem_cons_succ]
          refine wpAnyH_done (by kernel_rfl) ?_ _
          refine NoPanic.normal ?_
          go_wp2_with fail
          go_meet
          exact ⟨rfl, rfl, M6, F6, E6, HI6.out⟩
        case rest =>
          obtain ⟨rfl, rfl, M6, F6, E6, h6⟩ := hcut
          have HI6 := Lib.hid h6
          clear h6 a3 hzc
          go_wp2_with fail
          go_roundg (n0 - (i + 1))
          case measure => omega
          case rel => exact ⟨i + 1, by omega, by go_num, rfl, rfl, M6, F6, E6, HI6.out⟩
    · obtain rfl : i = n0 := by omega
      have HIN2 := Lib.hid hin
      clear hin
      go_wp2_with fail
      exact HQ.out _ _ _ _ _ _ _ _ _ _ _ _ _ _ _ _ _ _ _ _ _ _ _ _ _ _ _ _ _ _ _ _ _ _ _ _ _ _ _ _ _ _ _ _ _ _ _ _ _ _ _ _ _ _ _ _ _ _ _ _ _ _ _ _ _ _ _ _ _ _ _ _ _ _ _ _ _ _ _ _ _ _ _ _ _ _ _ _ _ _ _ _ _ _ _ _ _ _ _ _ _ _ _ _ _ _ _ _ _ _ _ _ _ _ _ _ _ _ _ _ _ _ _ _ _ _ _ _ _ _ _ _ _ _ _ _ _ _ _ _ _ _ _ _ _ _ _ _ _ _ _ _ _ _ _ _ _ _ _ _ _ _ _ _ _ _ _ _ _ _ _ _ _ _ _ _ _ _ _ _ _ _ _ _ _ _ _ _ _ _ _ _ _ _ _ ⟨rfl, HIN2.out.x2, la, rfl, hla0, by omega, HIN2.out.mid HEE.out.1 HEE.out.2 (by rw [HTK.out]; omega) hz0⟩

end Go.Proofs.Ytgkhbnkbhcginaa
