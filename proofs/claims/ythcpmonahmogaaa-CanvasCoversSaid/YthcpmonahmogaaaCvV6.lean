/- canvas: all places of a band were seen; the bands of a resolution are gone through. -/
import Derived.Test.YthcpmonahmogaaaCvV5
import Derived.Laws.Rows
import Derived.Deep.QuietTactic
import Derived.BigQuiet
import Derived.Deep.CutRange
import Derived.Deep.CutBlock
import Derived.Deep.LoopGhost
set_option linter.unusedVariables false
set_option linter.unusedSimpArgs false
namespace Go.Proofs.Ythcpmonahmogaaa
open Go.RowKit
set_option maxRecDepth 100000
set_option maxHeartbeats 16000000 in
theorem cvC {u0 u1 u2 u3 u4 u5 u6 u7 u8 u9 u10 u11 u12 u13 u14 u15 u16 u18 u19 u20 u21 u22 u23 u24 u26 u27 u28 u29 u30 u31 u32 u33 u34 u35 u36 u37 u38 u39 u40 u41 u42 u43 u44 u45 u46 u47 u48 u49 u50 u51 u52 u53 u54 u55 u56 u57 u58 u59 u60 u61 u62 u63 u64 u65 u66 u67 u68 u69 u70 u71 u72 u73 u74 u75 u76 u77 u78 u79 u80 u81 u82 u83 u84 u85 u86 u87 u88 u89 u90 u91 u92 u93 u94 u95 u96 u97 u98 u99 u100 u101 u102 u103 u104 u105 u106 u107 u108 u109 u110 u111 u112 u113 u114 u115 u116 u117 u118 u119 u120 u121 u122 u123 u124 u125 u126 u127 u128 u129 u130 u131 u132 u133 u134 u135 u136 u137 u138 u139 u140 u141 u142 u143 u144 u145 u146 u147 u148 u149 u150 u151 u152 u153 u154 u155 u156 u157 u158 u159 u160 u161 u162 u163 u164 u165 u166 u167 u168 u169 u170 u171 u172 u173 u174 u175 u176 u177 u178 u179 u180 u181 u182 u183 u184 u185 u186 u187 u188 u189 u190 u191 u192 u193 u194 u195 u196 u197 u198 u199 u200 u201 u202 u203 u204 u205 u206 u207 u208 u209 u210 u211 u212 u213 u214 u215 u216 u217 u218 u219 u220 u221 u222 u223 u224 u225 u226 u227 u228 u229 u230 u231 u232 u233 u234 u235 u236 u237 u238 u239 u240 u241 u242 u243 u244 u245 u246 u247 u248 u249 u250 u251 u252 u253 u254 u255 u256 u257 u258 u259 u260 u261 u262 u263 u264 u265 u266 u267 u268 u269 u270 u271 u272 u273 u274 u275 u276 u277 u278 u279 u280 u281 u282 u283 u284 u285 u286 u287 u288 u289 u290 u291 u292 u293 u294 u295 u296 u297 : Value} (sg n : Nat) (V : Nat → Bool) (W : World) (HS : Hid (W.heap[sg]? = some (.cells (bA n V) 4 (0, 0)) ∧ ∀ i, i < n → V i = true)) (hn : n ≤ 625) {Q : Exit → Act → World → Prop}
    (hQ : ∀ (v2 v283 v284 v285 v286 v287 v288 v289 v290 v291 v292 v293 : Value), Q .normal ⟨#[u0, u1, v2, u3, u4, u5, u6, u7, u8, u9, u10, u11, u12, u13, u14, u15, u16, .slice (some ⟨sg, 0, none⟩) n n, u18, u19, u20, u21, u22, u23, u24, .int .i64 (n : Int), u26, u27, u28, u29, u30, u31, u32, u33, u34, u35, u36, u37, u38, u39, u40, u41, u42, u43, u44, u45, u46, u47, u48, u49, u50, u51, u52, u53, u54, u55, u56, u57, u58, u59, u60, u61, u62, u63, u64, u65, u66, u67, u68, u69, u70, u71, u72, u73, u74, u75, u76, u77, u78, u79, u80, u81, u82, u83, u84, u85, u86, u87, u88, u89, u90, u91, u92, u93, u94, u95, u96, u97, u98, u99, u100, u101, u102, u103, u104, u105, u106, u107, u108, u109, u110, u111, u112, u113, u114, u115, u116, u117, u118, u119, u120, u121, u122, u123, u124, u125, u126, u127, u128, u129, u130, u131, u132, u133, u134, u135, u136, u137, u138, u139, u140, u141, u142, u143, u144, u145, u146, u147, u148, u149, u150, u151, u152, u153, u154, u155, u156, u157, u158, u159, u160, u161, u162, u163, u164, u165, u166, u167, u168, u169, u170, u171, u172, u173, u174, u175, u176, u177, u178, u179, u180, u181, u182, u183, u184, u185, u186, u187, u188, u189, u190, u191, u192, u193, u194, u195, u196, u197, u198, u199, u200, u201, u202, u203, u204, u205, u206, u207, u208, u209, u210, u211, u212, u213, u214, u215, u216, u217, u218, u219, u220, u221, u222, u223, u224, u225, u226, u227, u228, u229, u230, u231, u232, u233, u234, u235, u236, u237, u238, u239, u240, u241, u242, u243, u244, u245, u246, u247, u248, u249, u250, u251, u252, u253, u254, u255, u256, u257, u258, u259, u260, u261, u262, u263, u264, u265, u266, u267, u268, u269, u270, u271, u272, u273, u274, u275, u276, u277, u278, u279, u280, u281, u282, v283, v284, v285, v286, v287, v288, v289, v290, v291, v292, v293, u294, u295, u296, u297], []⟩ W) :
    (blkOf Try.f5 14).wp Try.prog Q ⟨#[u0, u1, u2, u3, u4, u5, u6, u7, u8, u9, u10, u11, u12, u13, u14, u15, u16, .slice (some ⟨sg, 0, none⟩) n n, u18, u19, u20, u21, u22, u23, u24, .int .i64 0, u26, u27, u28, u29, u30, u31, u32, u33, u34, u35, u36, u37, u38, u39, u40, u41, u42, u43, u44, u45, u46, u47, u48, u49, u50, u51, u52, u53, u54, u55, u56, u57, u58, u59, u60, u61, u62, u63, u64, u65, u66, u67, u68, u69, u70, u71, u72, u73, u74, u75, u76, u77, u78, u79, u80, u81, u82, u83, u84, u85, u86, u87, u88, u89, u90, u91, u92, u93, u94, u95, u96, u97, u98, u99, u100, u101, u102, u103, u104, u105, u106, u107, u108, u109, u110, u111, u112, u113, u114, u115, u116, u117, u118, u119, u120, u121, u122, u123, u124, u125, u126, u127, u128, u129, u130, u131, u132, u133, u134, u135, u136, u137, u138, u139, u140, u141, u142, u143, u144, u145, u146, u147, u148, u149, u150, u151, u152, u153, u154, u155, u156, u157, u158, u159, u160, u161, u162, u163, u164, u165, u166, u167, u168, u169, u170, u171, u172, u173, u174, u175, u176, u177, u178, u179, u180, u181, u182, u183, u184, u185, u186, u187, u188, u189, u190, u191, u192, u193, u194, u195, u196, u197, u198, u199, u200, u201, u202, u203, u204, u205, u206, u207, u208, u209, u210, u211, u212, u213, u214, u215, u216, u217, u218, u219, u220, u221, u222, u223, u224, u225, u226, u227, u228, u229, u230, u231, u232, u233, u234, u235, u236, u237, u238, u239, u240, u241, u242, u243, u244, u245, u246, u247, u248, u249, u250, u251, u252, u253, u254, u255, u256, u257, u258, u259, u260, u261, u262, u263, u264, u265, u266, u267, u268, u269, u270, u271, u272, u273, u274, u275, u276, u277, u278, u279, u280, u281, u282, u283, u284, u285, u286, u287, u288, u289, u290, u291, u292, u293, u294, u295, u296, u297], []⟩ W := by
  obtain ⟨o_, ho_⟩ : ∃ o, blkOf Try.f5 14 = o := ⟨_, rfl⟩
  rw [ho_]
  conv at ho_ => lhs; whnf
  subst ho_
  have HQ := Lib.hid hQ
  clear hQ
  go_wp2_with fail
  go_loopg [25] n (fun g v wr => ∃ i : Nat, i + g = n ∧ v = .int .i64 (i : Int) ∧ wr = W)
  case atStart => exact ⟨0, by omega, rfl, rfl⟩
  case round =>
    obtain ⟨i, hig, rfl, rfl⟩ := hrel
    by_cases hj : i < n
    · obtain ⟨g1, rfl⟩ : ∃ g1, gk = g1 + 1 := ⟨gk - 1, by omega⟩
      have hiI : (i : Int) < (n : Int) ∧ (0 : Int) ≤ (i : Int) := by omega
      have s0 : wr.cell? ⟨sg, i, none⟩ = some (.bool true) := by rw [blk_cell HS.out.1, bA_get hj, HS.out.2 i hj]
      go_wp2
      go_roundg g1
      case measure => omega
      case rel => exact ⟨i + 1, by omega, by go_num, rfl⟩
    · obtain rfl : i = n := by omega
      have hlc : ¬ (i : Int) < (i : Int) := by omega
      go_wp2_with fail
      exact HQ.out _ _ _ _ _ _ _ _ _ _ _ _
theorem blk_pos {b z : Rc4} {pr bw bh r k : Nat} (hb : RcOk 25 b) : ∀ (j : Nat) (s : Rc4), (blkF b z pr bw bh r k).1[j]? = some s → s.1 < s.2.2.1 ∧ s.2.1 < s.2.2.2 := fun j s hs => by
  rcases blk_facts (z := z) (pr := pr) (bw := bw) (bh := bh) (r := r) (k := k) hb rfl rfl with ⟨_, h⟩ | ⟨wd, ht, _, _, _, h⟩
  · rw [h] at hs; simp at hs
  · exact (h j s hs).pos
set_option maxHeartbeats 16000000 in
theorem cvE {u0 u1 u2 u3 u5 u6 u7 u8 u12 u17 u18 u19 u20 u21 u22 u23 u24 u25 u26 u27 u28 u29 u30 u31 u32 u33 u34 u35 u36 u37 u38 u39 u40 u41 u42 u43 u44 u45 u46 u47 u48 u49 u50 u51 u52 u53 u54 u55 u56 u57 u58 u59 u60 u61 u62 u63 u64 u65 u66 u67 u68 u69 u70 u71 u72 u73 u74 u75 u76 u77 u78 u79 u80 u81 u82 u83 u84 u85 u86 u87 u88 u89 u90 u91 u92 u93 u94 u95 u96 u97 u98 u99 u100 u101 u102 u103 u104 u105 u106 u107 u108 u109 u110 u111 u112 u113 u114 u115 u116 u117 u118 u119 u120 u121 u122 u123 u124 u125 u126 u127 u128 u129 u130 u131 u132 u133 u134 u135 u136 u137 u138 u139 u140 u141 u142 u143 u144 u145 u146 u147 u148 u149 u150 u151 u152 u153 u154 u155 u156 u157 u158 u159 u160 u161 u162 u163 u164 u165 u166 u167 u168 u169 u170 u171 u172 u173 u174 u175 u176 u177 u178 u179 u180 u181 u182 u183 u184 u185 u186 u187 u188 u189 u190 u191 u192 u193 u194 u195 u196 u197 u198 u199 u200 u201 u202 u203 u204 u205 u206 u207 u208 u209 u210 u211 u212 u213 u214 u215 u216 u217 u218 u219 u220 u221 u222 u223 u224 u225 u226 u227 u228 u229 u230 u231 u232 u233 u234 u235 u236 u237 u238 u239 u240 u241 u242 u243 u244 u245 u246 u247 u248 u249 u250 u251 u252 u253 u254 u255 u256 u257 u258 u259 u260 u261 u262 u263 u264 u265 u266 u267 u268 u269 u270 u271 u272 u273 u274 u275 u276 u277 u278 u279 u280 u281 u282 u283 u284 u285 u286 u287 u288 u289 u290 u291 u292 u293 u294 u295 u296 u297 : Value} (bn MC pb q10 r TN : Nat) (MA : Option Addr) (TX TY ST OD : Int) (LV BW BH PR LY : Nat) (RC SO EP : Bool) (z0 z1 z2 z3 CWI RHI T A0 : Int) (rb : List Rc4) (W : World)
    (HR : Hid (RcL W W.heap.size (.slice MA bn MC) rb ∧ rb.length = bn ∧ ∀ b ∈ rb, RcOk 25 b ∧ BandOk b (z0, z1, z2, z3) PR r)) (HP : Hid (pb < W.heap.size ∧ W.heap[pb]? = some (.cells #[.int .i64 TX, .int .i64 TY, .int .i64 (LV : Int), .int .i64 (BW : Int), .int .i64 (BH : Int), .int .i64 (PR : Int), .int .i64 ST, .int .i64 OD, .int .i64 (LY : Int), .bool RC, .bool SO, .bool EP] 26 (0, 0)) ∧ q10 < W.heap.size ∧ W.heap[q10]? = some (.cells #[.int .i64 z0, .int .i64 z1, .int .i64 z2, .int .i64 z3] 48 (0, 0)))) (HZ : Hid (RcOk 25 (z0, z1, z2, z3) ∧ (pcF (z0, z1, z2, z3) ((2 ^ PR : Nat) : Int)).1 = CWI ∧ (pcF (z0, z1, z2, z3) ((2 ^ PR : Nat) : Int)).2 = RHI))
    (HT : Hid (wrap64 T = T ∧ CWI * RHI = T ∧ (TN : Int) = T)) (hTN : TN ≤ 625) (hA : 0 ≤ A0 ∧ A0 ≤ 50000) (hbn : bn ≤ 3) (hcr : (0 ≤ CWI ∧ CWI ≤ 25) ∧ (0 ≤ RHI ∧ RHI ≤ 25)) (hpr : 1 ≤ PR ∧ PR ≤ 15) (hbw : (2 ≤ BW ∧ BW ≤ 4) ∧ (2 ≤ BH ∧ BH ≤ 4)) (hr : r ≤ 5) {Q : Exit → Act → World → Prop}
    (hQ : ∀ (v2 v17 v18 v19 v20 v21 v22 v23 v24 v25 v146 v147 v148 v149 v150 v151 v152 v153 v154 v155 v156 v157 v158 v159 v160 v161 v162 v163 v164 v165 v166 v167 v168 v169 v170 v171 v172 v173 v174 v175 v176 v177 v178 v179 v180 v181 v182 v183 v184 v185 v186 v187 v188 v189 v190 v191 v192 v193 v194 v195 v196 v197 v198 v199 v200 v201 v202 v203 v204 v205 v206 v207 v208 v209 v210 v211 v212 v213 v214 v215 v216 v217 v218 v219 v220 v221 v222 v223 v224 v225 v226 v227 v228 v229 v230 v231 v232 v233 v234 v235 v236 v237 v238 v239 v240 v241 v242 v243 v244 v245 v246 v247 v248 v249 v250 v251 v252 v253 v254 v255 v256 v257 v258 v259 v260 v261 v262 v263 v264 v265 v266 v267 v268 v269 v270 v271 v272 v273 v274 v275 v276 v277 v278 v279 v280 v281 v282 v283 v284 v285 v286 v287 v288 v289 v290 v291 v292 v293 : Value) (W' : World), Hid (Below W.heap.size W W') → Q .normal ⟨#[u0, u1, v2, u3, .pointer (some ⟨pb, 0, none⟩), u5, u6, u7, u8, (.int .i64 (A0 + sumA rb)), .int .i64 (r : Int), .pointer (some ⟨q10, 0, none⟩), u12, .slice MA bn MC, .int .i64 CWI, .int .i64 RHI, .int .i64 (bn : Int), v17, v18, v19, v20, v21, v22, v23, v24, v25, u26, u27, u28, u29, u30, u31, u32, u33, u34, u35, u36, u37, u38, u39, u40, u41, u42, u43, u44, u45, u46, u47, u48, u49, u50, u51, u52, u53, u54, u55, u56, u57, u58, u59, u60, u61, u62, u63, u64, u65, u66, u67, u68, u69, u70, u71, u72, u73, u74, u75, u76, u77, u78, u79, u80, u81, u82, u83, u84, u85, u86, u87, u88, u89, u90, u91, u92, u93, u94, u95, u96, u97, u98, u99, u100, u101, u102, u103, u104, u105, u106, u107, u108, u109, u110, u111, u112, u113, u114, u115, u116, u117, u118, u119, u120, u121, u122, u123, u124, u125, u126, u127, u128, u129, u130, u131, u132, u133, u134, u135, u136, u137, u138, u139, u140, u141, u142, u143, u144, u145, v146, v147, v148, v149, v150, v151, v152, v153, v154, v155, v156, v157, v158, v159, v160, v161, v162, v163, v164, v165, v166, v167, v168, v169, v170, v171, v172, v173, v174, v175, v176, v177, v178, v179, v180, v181, v182, v183, v184, v185, v186, v187, v188, v189, v190, v191, v192, v193, v194, v195, v196, v197, v198, v199, v200, v201, v202, v203, v204, v205, v206, v207, v208, v209, v210, v211, v212, v213, v214, v215, v216, v217, v218, v219, v220, v221, v222, v223, v224, v225, v226, v227, v228, v229, v230, v231, v232, v233, v234, v235, v236, v237, v238, v239, v240, v241, v242, v243, v244, v245, v246, v247, v248, v249, v250, v251, v252, v253, v254, v255, v256, v257, v258, v259, v260, v261, v262, v263, v264, v265, v266, v267, v268, v269, v270, v271, v272, v273, v274, v275, v276, v277, v278, v279, v280, v281, v282, v283, v284, v285, v286, v287, v288, v289, v290, v291, v292, v293, u294, u295, u296, u297], []⟩ W') :
    (blkOf Try.f5 4).wp Try.prog Q ⟨#[u0, u1, u2, u3, .pointer (some ⟨pb, 0, none⟩), u5, u6, u7, u8, .int .i64 A0, .int .i64 (r : Int), .pointer (some ⟨q10, 0, none⟩), u12, .slice MA bn MC, .int .i64 CWI, .int .i64 RHI, .int .i64 0, u17, u18, u19, u20, u21, u22, u23, u24, u25, u26, u27, u28, u29, u30, u31, u32, u33, u34, u35, u36, u37, u38, u39, u40, u41, u42, u43, u44, u45, u46, u47, u48, u49, u50, u51, u52, u53, u54, u55, u56, u57, u58, u59, u60, u61, u62, u63, u64, u65, u66, u67, u68, u69, u70, u71, u72, u73, u74, u75, u76, u77, u78, u79, u80, u81, u82, u83, u84, u85, u86, u87, u88, u89, u90, u91, u92, u93, u94, u95, u96, u97, u98, u99, u100, u101, u102, u103, u104, u105, u106, u107, u108, u109, u110, u111, u112, u113, u114, u115, u116, u117, u118, u119, u120, u121, u122, u123, u124, u125, u126, u127, u128, u129, u130, u131, u132, u133, u134, u135, u136, u137, u138, u139, u140, u141, u142, u143, u144, u145, u146, u147, u148, u149, u150, u151, u152, u153, u154, u155, u156, u157, u158, u159, u160, u161, u162, u163, u164, u165, u166, u167, u168, u169, u170, u171, u172, u173, u174, u175, u176, u177, u178, u179, u180, u181, u182, u183, u184, u185, u186, u187, u188, u189, u190, u191, u192, u193, u194, u195, u196, u197, u198, u199, u200, u201, u202, u203, u204, u205, u206, u207, u208, u209, u210, u211, u212, u213, u214, u215, u216, u217, u218, u219, u220, u221, u222, u223, u224, u225, u226, u227, u228, u229, u230, u231, u232, u233, u234, u235, u236, u237, u238, u239, u240, u241, u242, u243, u244, u245, u246, u247, u248, u249, u250, u251, u252, u253, u254, u255, u256, u257, u258, u259, u260, u261, u262, u263, u264, u265, u266, u267, u268, u269, u270, u271, u272, u273, u274, u275, u276, u277, u278, u279, u280, u281, u282, u283, u284, u285, u286, u287, u288, u289, u290, u291, u292, u293, u294, u295, u296, u297], []⟩ W := by
  obtain ⟨o_, ho_⟩ : ∃ o, blkOf Try.f5 4 = o := ⟨_, rfl⟩
  rw [ho_]
  conv at ho_ => lhs; whnf
  subst ho_
  have HQ := Lib.hid hQ
  clear hQ
  go_wp2_with fail
  go_loopg [9, 16] bn (fun g a v wr => ∃ (e : Nat) (al : Int), e + g = bn ∧ a = .int .i64 al ∧ v = .int .i64 (e : Int) ∧ (A0 ≤ al ∧ al ≤ A0 + 625 * (e : Int)) ∧ Hid (al = A0 + sumA (rb.take e) ∧ Below W.heap.size W wr))
  case atStart => exact ⟨0, A0, by omega, rfl, rfl, by omega, Lib.hid ⟨by simp [sumA], Below.refl _ _⟩⟩
  case round =>
    obtain ⟨e, al, hig, rfl, rfl, hal, HI⟩ := hrel
    obtain ⟨wa, hwa⟩ : ∃ wa, wa = wr := ⟨wr, rfl⟩
    subst hwa
    by_cases hj : e < bn
    · obtain ⟨g1, rfl⟩ : ∃ g1, gk = g1 + 1 := ⟨gk - 1, by omega⟩
      have heI : (e : Int) < (bn : Int) ∧ (0 : Int) ≤ (e : Int) := by omega
      have hel : e < rb.length := by rw [HR.out.2.1]; exact hj
      obtain ⟨⟨b0, b1, b2, b3⟩, hbd⟩ : ∃ b, rb[e] = b := ⟨_, rfl⟩
      have hbk := HR.out.2.2 (b0, b1, b2, b3) (by rw [← hbd]; exact List.getElem_mem hel)
      have hbd2 : rb[e]? = some (b0, b1, b2, b3) := by rw [List.getElem?_eq_getElem hel, hbd]
      obtain ⟨MA', MC', hMA, hMcell⟩ := HR.out.1
      injection hMA with hMA1 hMA2 hMA3
      subst hMA1 hMA3
      obtain ⟨mg, mq, rfl, hmg, y0, y1, y2, y3⟩ := hMcell e _ hbd2
      simp only at y0 y1 y2 y3
      have HME : Hid (mg < W.heap.size ∧ W.cell? ⟨mg, mq + e * 4, none⟩ = some (.int .i64 b0) ∧ W.cell? ⟨mg, mq + e * 4 + 1, none⟩ = some (.int .i64 b1) ∧ W.cell? ⟨mg, mq + e * 4 + 2, none⟩ = some (.int .i64 b2) ∧ W.cell? ⟨mg, mq + e * 4 + 3, none⟩ = some (.int .i64 b3)) := Lib.hid ⟨hmg, y0, y1, y2, y3⟩
      have HBD : Hid (rb[e]? = some (b0, b1, b2, b3)) := Lib.hid hbd2
      have HBO := Lib.hid hbk
      obtain ⟨⟨⟨q1, q2, q3, q4⟩, q5, q6⟩, _⟩ := hbk
      simp only at q1 q2 q3 q4 q5 q6
      obtain ⟨n, hnn⟩ : ∃ n : Nat, (b2 - b0) * (b3 - b1) = (n : Int) := ⟨((b2 - b0) * (b3 - b1)).toNat, by have : 0 ≤ (b2 - b0) * (b3 - b1) := Int.mul_nonneg (by omega) (by omega); omega⟩
      have hn625 : n ≤ 625 := by
        have : (b2 - b0) * (b3 - b1) ≤ 25 * 25 := Int.mul_le_mul (by omega) (by omega) (by omega) (by omega)
        omega
      have AR : Hid (∀ u, Calls Try.prog 32 #[.agg #[.int .i64 b0, .int .i64 b1, .int .i64 b2, .int .i64 b3]] u fun e w' => e = .returned (.int .i64 (n : Int)) ∧ Below u.heap.size u w') := Lib.hid fun u => by
        have := rarea_any b0 b1 b2 b3 u (by omega) (by omega)
        rw [hnn] at this
        exact this
      have HN := Lib.hid hnn
      have m0 : wa.cell? ⟨mg, mq + e * 4, none⟩ = some (.int .i64 b0) := (HI.out.2.cell (p := ⟨mg, _, none⟩) hmg).trans y0
      have m1 : wa.cell? ⟨mg, mq + e * 4 + 1, none⟩ = some (.int .i64 b1) := (HI.out.2.cell (p := ⟨mg, _, none⟩) hmg).trans y1
      have m2 : wa.cell? ⟨mg, mq + e * 4 + 2, none⟩ = some (.int .i64 b2) := (HI.out.2.cell (p := ⟨mg, _, none⟩) hmg).trans y2
      have m3 : wa.cell? ⟨mg, mq + e * 4 + 3, none⟩ = some (.int .i64 b3) := (HI.out.2.cell (p := ⟨mg, _, none⟩) hmg).trans y3
      clear hel hbd hbd2 hMA2 hMcell hmg y0 y1 y2 y3 hnn
      go_wp2_with fail
      refine (AR.out _).mono ?_
      rintro e' w1 ⟨rfl, hb1⟩
      have hmk := hmkB w1 n (by omega)
      have HB1 := Lib.hid (HI.out.2.trans (hb1.mono HI.out.2.size))
      clear hb1 m0 m1 m2 m3
      go_upto_block 6 with fail
      clear hmk
      obtain ⟨sg, hsg⟩ : ∃ s, w1.heap.size = s := ⟨_, rfl⟩
      obtain ⟨w2, hw2⟩ : ∃ w2, w1.alloc (Obj.cells (bA n fun _ => false) 4) = w2 := ⟨_, rfl⟩
      have hnew : w2.heap[sg]? = some (.cells (bA n fun _ => false) 4 (0, 0)) := by rw [← hw2, ← hsg]; exact World.alloc_heap_new w1 _
      have hb2 : Below W.heap.size W w2 := by rw [← hw2]; exact HB1.out.alloc HB1.out.size _
      have hsgW : W.heap.size ≤ sg := by rw [← hsg]; exact HB1.out.size
      rw [hsg, hw2]
      have HE2 : Hid (mg < w2.heap.size ∧ mg ≠ sg ∧ w2.cell? ⟨mg, mq + e * 4, none⟩ = some (.int .i64 b0) ∧ w2.cell? ⟨mg, mq + e * 4 + 1, none⟩ = some (.int .i64 b1) ∧ w2.cell? ⟨mg, mq + e * 4 + 2, none⟩ = some (.int .i64 b2) ∧ w2.cell? ⟨mg, mq + e * 4 + 3, none⟩ = some (.int .i64 b3)) := Lib.hid ⟨Nat.lt_of_lt_of_le HME.out.1 hb2.size, by have := HME.out.1; omega, (hb2.cell (p := ⟨mg, _, none⟩) HME.out.1).trans HME.out.2.1, (hb2.cell (p := ⟨mg, _, none⟩) HME.out.1).trans HME.out.2.2.1, (hb2.cell (p := ⟨mg, _, none⟩) HME.out.1).trans HME.out.2.2.2.1, (hb2.cell (p := ⟨mg, _, none⟩) HME.out.1).trans HME.out.2.2.2.2⟩
      have HP2 : Hid (pb < w2.heap.size ∧ pb ≠ sg ∧ w2.heap[pb]? = some (.cells #[.int .i64 TX, .int .i64 TY, .int .i64 (LV : Int), .int .i64 (BW : Int), .int .i64 (BH : Int), .int .i64 (PR : Int), .int .i64 ST, .int .i64 OD, .int .i64 (LY : Int), .bool RC, .bool SO, .bool EP] 26 (0, 0)) ∧ q10 < w2.heap.size ∧ q10 ≠ sg ∧ w2.heap[q10]? = some (.cells #[.int .i64 z0, .int .i64 z1, .int .i64 z2, .int .i64 z3] 48 (0, 0))) := Lib.hid ⟨Nat.lt_of_lt_of_le HP.out.1 hb2.size, by have := HP.out.1; omega, (hb2.block _ HP.out.1).trans HP.out.2.1, Nat.lt_of_lt_of_le HP.out.2.2.1 hb2.size, by have := HP.out.2.2.1; omega, (hb2.block _ HP.out.2.2.1).trans HP.out.2.2.2⟩
      have HB2 := Lib.hid hb2
      have HSG := Lib.hid hsgW
      have HS2 : Hid (w2.heap[sg]? = some (.cells (bA n fun _ => false) 4 (0, 0)) ∧ SeenIs (b0, b1, b2, b3) (fun _ => false) (fun _ _ => False) ∧ al = al + (cntV (fun _ => false) n : Int) ∧ (n : Int) = (b2 - b0) * (b3 - b1)) := Lib.hid ⟨hnew, fun _ _ _ => ⟨fun h => (by cases h), fun h => h.elim⟩, by rw [cntV_none n (fun _ _ => rfl)]; simp, HN.out.symm⟩
      have c1 : inN (b0, b1, b2, b3) 255 := by obtain ⟨⟨a1, a2, a3, a4⟩, _⟩ := HBO.out.1; exact ⟨by omega, by omega, by omega, by omega⟩
      have c2 : inN (z0, z1, z2, z3) 255 := by obtain ⟨⟨a1, a2, a3, a4⟩, _⟩ := HZ.out.1; exact ⟨by omega, by omega, by omega, by omega⟩
      have BK : Hid (∀ k, k < TN → (((blkF (b0, b1, b2, b3) (z0, z1, z2, z3) PR BW BH r k).1).length ≤ 1000 ∧ ∀ u, Calls Try.prog 30 #[.agg #[.int .i64 b0, .int .i64 b1, .int .i64 b2, .int .i64 b3], .agg #[.int .i64 z0, .int .i64 z1, .int .i64 z2, .int .i64 z3], .agg #[.int .i64 TX, .int .i64 TY, .int .i64 (LV : Int), .int .i64 (BW : Int), .int .i64 (BH : Int), .int .i64 (PR : Int), .int .i64 ST, .int .i64 OD, .int .i64 (LY : Int), .bool RC, .bool SO, .bool EP], .int .i64 (r : Int), .int .i64 (k : Int)] u fun e w' => ∃ A c, e = .returned (.tuple #[.slice A ((blkF (b0, b1, b2, b3) (z0, z1, z2, z3) PR BW BH r k).1).length c, .int .i64 ((blkF (b0, b1, b2, b3) (z0, z1, z2, z3) PR BW BH r k).2)]) ∧ RcL w' w'.heap.size (.slice A ((blkF (b0, b1, b2, b3) (z0, z1, z2, z3) PR BW BH r k).1).length c) ((blkF (b0, b1, b2, b3) (z0, z1, z2, z3) PR BW BH r k).1) ∧ Below u.heap.size u w')) := Lib.hid fun k hk => ⟨blk_len PR BW BH r k HBO.out.1, fun u => blocks_any (b0, b1, b2, b3) (z0, z1, z2, z3) TX TY (LV : Int) ST OD (LY : Int) RC SO EP BW BH PR r k u c1 HBO.out.1.2 c2 HZ.out.1.2 (by omega) (by omega) (by omega) (by omega) (by omega)⟩
      have CV : Hid ((∀ k, k < TN → ∀ j s, ((blkF (b0, b1, b2, b3) (z0, z1, z2, z3) PR BW BH r k).1)[j]? = some s → (b0 ≤ s.1 ∧ s.1 ≤ s.2.2.1 ∧ s.2.2.1 ≤ b2 ∧ b1 ≤ s.2.1 ∧ s.2.1 ≤ s.2.2.2 ∧ s.2.2.2 ≤ b3) ∧ ∀ x y, inR s x y ↔ inR (b0, b1, b2, b3) x y ∧ pOf (z0, z1, z2, z3) PR r x y = k ∧ bOf (b0, b1, b2, b3) (z0, z1, z2, z3) PR BW BH r k x y = j) ∧ ∀ x y, inR (b0, b1, b2, b3) x y → pOf (z0, z1, z2, z3) PR r x y < TN ∧ bOf (b0, b1, b2, b3) (z0, z1, z2, z3) PR BW BH r (pOf (z0, z1, z2, z3) PR r x y) x y < ((blkF (b0, b1, b2, b3) (z0, z1, z2, z3) PR BW BH r (pOf (z0, z1, z2, z3) PR r x y)).1).length) := Lib.hid ⟨fun k hk j s hs => by
          have hc := cov_in HBO.out.2 hs
          have hp := blk_pos HBO.out.1 j s hs
          have h1 := ((hc s.1 s.2.1).1 ⟨Int.le_refl _, hp.1, Int.le_refl _, hp.2⟩).1
          have h2 := ((hc (s.2.2.1 - 1) (s.2.2.2 - 1)).1 ⟨by omega, by omega, by omega, by omega⟩).1
          unfold inR at h1 h2
          dsimp only at h1 h2
          exact ⟨by omega, hc⟩, fun x y h => by
          have h1 := cov_all (bw := BW) (bh := BH) HBO.out.2 h
          rw [HZ.out.2.1, HZ.out.2.2, HT.out.2.1, ← HT.out.2.2] at h1
          exact ⟨by omega, h1.2⟩⟩
      clear hnew hb2 hsgW hw2 hsg c1 c2 HB1 AR HME
      refine wp_code (c' := blkOf Try.f5 6) (by kernel_rfl) (cvK mg mq e bn MC sg n pb q10 r TN TX TY ST OD LV BW BH PR LY RC SO EP b0 b1 b2 b3 z0 z1 z2 z3 CWI RHI T al al (fun _ => false) (pOf (z0, z1, z2, z3) PR r) (fun k => bOf (b0, b1, b2, b3) (z0, z1, z2, z3) PR BW BH r k) (fun k => (blkF (b0, b1, b2, b3) (z0, z1, z2, z3) PR BW BH r k).1) (fun k => (blkF (b0, b1, b2, b3) (z0, z1, z2, z3) PR BW BH r k).2) w2 HE2 HP2 HS2 HT hTN BK CV (by omega) (by omega) heI (by omega) hn625 hcr ?_)
      intro v2 v19 v20 v21 v22 v23 v24 v158 v159 v160 v161 v162 v163 v164 v165 v166 v167 v168 v169 v170 v171 v172 v173 v174 v175 v176 v177 v178 v179 v180 v181 v182 v183 v184 v185 v186 v187 v188 v189 v190 v191 v192 v193 v194 v195 v196 v197 v198 v199 v200 v201 v202 v203 v204 v205 v206 v207 v208 v209 v210 v211 v212 v213 v214 v215 v216 v217 v218 v219 v220 v221 v222 v223 v224 v225 v226 v227 v228 v229 v230 v231 v232 v233 v234 v235 v236 v237 v238 v239 v240 v241 v242 v243 v244 v245 v246 v247 v248 v249 v250 v251 v252 v253 v254 v255 v256 v257 v258 v259 v260 v261 v262 v263 v264 v265 v266 v267 v268 v269 v270 v271 v272 v273 v274 v275 v276 v277 v278 v279 v280 v281 v282 W' V2 al2 H2
      have HV : Hid (W'.heap[sg]? = some (.cells (bA n V2) 4 (0, 0)) ∧ ∀ i, i < n → V2 i = true) := Lib.hid ⟨H2.out.2.1, fun i hi => by
        obtain ⟨x, y, hin, rfl⟩ := at_of (b := (b0, b1, b2, b3)) HBO.out.1.2 (i := i) (by dsimp only; rw [HN.out]; omega)
        exact (H2.out.2.2.1 x y hin).2 (CV.out.2 x y hin).1⟩
      have hal2 : al2 = al + (n : Int) := by rw [H2.out.2.2.2, cntV_all n HV.out.2]
      have HBW : Hid (Below W.heap.size W W') := Lib.hid (by
        have h1 := HB2.out
        have h2 := H2.out.1
        exact ⟨h2.os.trans h1.os, h2.tape.trans h1.tape, h2.output.trans h1.output, Nat.le_trans h1.size h2.size, fun k hk => (h2.block k (Nat.lt_of_lt_of_le hk h1.size) (fun e => by have := Option.some.inj e; have := HSG.out; omega)).trans (h1.block k hk)⟩)
      have HSU : Hid (al2 = A0 + sumA (rb.take (e + 1))) := Lib.hid (by
        rw [sumA_take rb e _ HBD.out, hal2, HI.out.1]
        unfold areaR
        dsimp only
        rw [HN.out]
        omega)
      have hal3 : A0 ≤ al2 ∧ al2 ≤ A0 + 625 * ((e + 1 : Nat) : Int) := by omega
      clear H2 HI HE2 HP2 HS2 BK CV HB2 hal2
      go_upto_block 14 with fail
      refine wp_code (c' := blkOf Try.f5 14) (by kernel_rfl) (cvC sg n V2 W' HV hn625 ?_)
      intro v2 v283 v284 v285 v286 v287 v288 v289 v290 v291 v292 v293
      go_wp2
      go_roundg g1
      case measure => omega
      case rel => exact ⟨e + 1, al2, by omega, rfl, by go_num, hal3, Lib.hid ⟨HSU.out, HBW.out⟩⟩
    · obtain rfl : e = bn := by omega
      have hlc : ¬ (e : Int) < (e : Int) := by omega
      have HAL : Hid (al = A0 + sumA rb) := Lib.hid (by rw [HI.out.1, List.take_of_length_le (by rw [HR.out.2.1]; exact Nat.le_refl _)])
      go_wp2_with fail
      rw [HAL.out]
      exact HQ.out _ _ _ _ _ _ _ _ _ _ _ _ _ _ _ _ _ _ _ _ _ _ _ _ _ _ _ _ _ _ _ _ _ _ _ _ _ _ _ _ _ _ _ _ _ _ _ _ _ _ _ _ _ _ _ _ _ _ _ _ _ _ _ _ _ _ _ _ _ _ _ _ _ _ _ _ _ _ _ _ _ _ _ _ _ _ _ _ _ _ _ _ _ _ _ _ _ _ _ _ _ _ _ _ _ _ _ _ _ _ _ _ _ _ _ _ _ _ _ _ _ _ _ _ _ _ _ _ _ _ _ _ _ _ _ _ _ _ _ _ _ _ _ _ _ _ _ _ _ _ _ _ _ _ _ _ _ _ wa (Lib.hid HI.out.2)
end Go.Proofs.Ythcpmonahmogaaa
