/- canvas: a block is gone through. -/
import Derived.Test.YthcpmonahmogaaaCvV2
import Derived.Laws.Rows
import Derived.Deep.QuietTactic
import Derived.BigQuiet
import Derived.Deep.CutRange
import Derived.Deep.CutBlock
import Derived.Deep.LoopGhost
set_option linter.unusedVariables false
set_option linter.unusedSimpArgs false
namespace Go.Proofs.Ythcpmonahmogaaa
open Go.RowKit
set_option maxRecDepth 100000
set_option maxHeartbeats 16000000 in
theorem cvY {u0 u1 u2 u3 u4 u5 u6 u7 u8 u10 u11 u12 u14 u15 u18 u20 u23 u24 u25 u26 u27 u28 u29 u30 u31 u32 u33 u34 u35 u36 u37 u38 u39 u40 u41 u42 u43 u44 u45 u46 u47 u48 u49 u50 u51 u52 u53 u54 u55 u56 u57 u58 u59 u60 u61 u62 u63 u64 u65 u66 u67 u68 u69 u70 u71 u72 u73 u74 u75 u76 u77 u78 u79 u80 u81 u82 u83 u84 u85 u86 u87 u88 u89 u90 u91 u92 u93 u94 u95 u96 u97 u98 u99 u100 u101 u102 u103 u104 u105 u106 u107 u108 u109 u110 u111 u112 u113 u114 u115 u116 u117 u118 u119 u120 u121 u122 u123 u124 u125 u126 u127 u128 u129 u130 u131 u132 u133 u134 u135 u136 u137 u138 u139 u140 u141 u142 u143 u144 u145 u146 u147 u148 u149 u150 u151 u152 u153 u154 u155 u156 u157 u158 u159 u160 u161 u162 u163 u164 u165 u166 u167 u168 u169 u170 u171 u172 u173 u174 u175 u176 u177 u178 u179 u180 u181 u182 u183 u184 u185 u186 u187 u188 u189 u190 u191 u192 u193 u194 u195 u196 u197 u198 u199 u200 u201 u202 u203 u204 u205 u206 u207 u208 u209 u210 u211 u212 u213 u214 u215 u216 u217 u218 u219 u220 u221 u222 u223 u224 u225 u226 u227 u228 u229 u230 u231 u232 u233 u234 u235 u236 u237 u238 u239 u240 u241 u242 u243 u244 u245 u246 u247 u248 u249 u250 u251 u252 u253 u254 u255 u256 u257 u258 u259 u260 u261 u262 u263 u264 u265 u266 u267 u268 u269 u270 u271 u272 u273 u274 u275 u276 u277 u278 u279 u280 u281 u282 u283 u284 u285 u286 u287 u288 u289 u290 u291 u292 u293 u294 u295 u296 u297 : Value} (mg mq e bn MC sg n g5 o5 bl C5 i : Nat) (b0 b1 b2 b3 c0 c1 c2 c3 all A0 : Int) (V : Nat → Bool) (P : Int → Int → Prop) (W : World)
    (HE : Hid (mg < W.heap.size ∧ mg ≠ sg ∧ W.cell? ⟨mg, mq + e * 4, none⟩ = some (.int .i64 b0) ∧ W.cell? ⟨mg, mq + e * 4 + 1, none⟩ = some (.int .i64 b1) ∧ W.cell? ⟨mg, mq + e * 4 + 2, none⟩ = some (.int .i64 b2) ∧ W.cell? ⟨mg, mq + e * 4 + 3, none⟩ = some (.int .i64 b3))) (HC : Hid (g5 < W.heap.size ∧ g5 ≠ sg ∧ W.cell? ⟨g5, o5 + i * 4, none⟩ = some (.int .i64 c0) ∧ W.cell? ⟨g5, o5 + i * 4 + 1, none⟩ = some (.int .i64 c1) ∧ W.cell? ⟨g5, o5 + i * 4 + 2, none⟩ = some (.int .i64 c2) ∧ W.cell? ⟨g5, o5 + i * 4 + 3, none⟩ = some (.int .i64 c3))) (HS : Hid (W.heap[sg]? = some (.cells (bA n V) 4 (0, 0)) ∧ SeenIs (b0, b1, b2, b3) V P ∧ all = A0 + (cntV V n : Int) ∧ (n : Int) = (b2 - b0) * (b3 - b1))) (HF : Hid (∀ x y, inR (c0, c1, c2, c3) x y → ¬ P x y))
    (hb : 0 ≤ b0 ∧ b0 ≤ c0 ∧ c0 ≤ c2 ∧ c2 ≤ b2 ∧ b2 ≤ 25) (hy : 0 ≤ b1 ∧ b1 ≤ c1 ∧ c1 ≤ c3 ∧ c3 ≤ b3 ∧ b3 ≤ 25) (heI : (e : Int) < (bn : Int) ∧ (0 : Int) ≤ (e : Int)) (hiI : (i : Int) < (bl : Int) ∧ (0 : Int) ≤ (i : Int)) (hA : 0 ≤ A0 ∧ A0 ≤ 100000) (hn : n ≤ 625) {Q : Exit → Act → World → Prop}
    (hQ : ∀ (v2 v23 v24 v188 v189 v190 v191 v192 v193 v194 v195 v196 v197 v198 v199 v200 v201 v202 v203 v204 v205 v206 v207 v208 v209 v210 v211 v212 v213 v214 v215 v216 v217 v218 v219 v220 v221 v222 v223 v224 v225 v226 v227 v228 v229 v230 v231 v232 v233 v234 v235 v236 v237 v238 v239 v240 v241 v242 v243 v244 v245 v246 v247 v248 v249 v250 v251 v252 v253 v254 v255 v256 v257 v258 v259 v260 v261 v262 v263 v264 v265 v266 v267 v268 v269 v270 v271 v272 v273 v274 v275 v276 v277 v278 v279 v280 v281 v282 : Value) (W' : World) (V' : Nat → Bool) (all' : Int), Hid (W.grownBy W' (some sg) ∧ W'.heap[sg]? = some (.cells (bA n V') 4 (0, 0)) ∧ SeenIs (b0, b1, b2, b3) V' (fun x' y' => P x' y' ∨ inR (c0, c1, c2, c3) x' y') ∧ all' = A0 + (cntV V' n : Int)) → Q .normal ⟨#[u0, u1, v2, u3, u4, u5, u6, u7, u8, (.int .i64 all'), u10, u11, u12, .slice (some ⟨mg, mq, none⟩) bn MC, u14, u15, .int .i64 (e : Int), .slice (some ⟨sg, 0, none⟩) n n, u18, .slice (some ⟨g5, o5, none⟩) bl C5, u20, .int .i64 (i : Int), .int .i64 c3, v23, v24, u25, u26, u27, u28, u29, u30, u31, u32, u33, u34, u35, u36, u37, u38, u39, u40, u41, u42, u43, u44, u45, u46, u47, u48, u49, u50, u51, u52, u53, u54, u55, u56, u57, u58, u59, u60, u61, u62, u63, u64, u65, u66, u67, u68, u69, u70, u71, u72, u73, u74, u75, u76, u77, u78, u79, u80, u81, u82, u83, u84, u85, u86, u87, u88, u89, u90, u91, u92, u93, u94, u95, u96, u97, u98, u99, u100, u101, u102, u103, u104, u105, u106, u107, u108, u109, u110, u111, u112, u113, u114, u115, u116, u117, u118, u119, u120, u121, u122, u123, u124, u125, u126, u127, u128, u129, u130, u131, u132, u133, u134, u135, u136, u137, u138, u139, u140, u141, u142, u143, u144, u145, u146, u147, u148, u149, u150, u151, u152, u153, u154, u155, u156, u157, u158, u159, u160, u161, u162, u163, u164, u165, u166, u167, u168, u169, u170, u171, u172, u173, u174, u175, u176, u177, u178, u179, u180, u181, u182, u183, u184, u185, u186, u187, v188, v189, v190, v191, v192, v193, v194, v195, v196, v197, v198, v199, v200, v201, v202, v203, v204, v205, v206, v207, v208, v209, v210, v211, v212, v213, v214, v215, v216, v217, v218, v219, v220, v221, v222, v223, v224, v225, v226, v227, v228, v229, v230, v231, v232, v233, v234, v235, v236, v237, v238, v239, v240, v241, v242, v243, v244, v245, v246, v247, v248, v249, v250, v251, v252, v253, v254, v255, v256, v257, v258, v259, v260, v261, v262, v263, v264, v265, v266, v267, v268, v269, v270, v271, v272, v273, v274, v275, v276, v277, v278, v279, v280, v281, v282, u283, u284, u285, u286, u287, u288, u289, u290, u291, u292, u293, u294, u295, u296, u297], []⟩ W') :
    (blkOf Try.f5 10).wp Try.prog Q ⟨#[u0, u1, u2, u3, u4, u5, u6, u7, u8, .int .i64 all, u10, u11, u12, .slice (some ⟨mg, mq, none⟩) bn MC, u14, u15, .int .i64 (e : Int), .slice (some ⟨sg, 0, none⟩) n n, u18, .slice (some ⟨g5, o5, none⟩) bl C5, u20, .int .i64 (i : Int), .int .i64 c1, u23, u24, u25, u26, u27, u28, u29, u30, u31, u32, u33, u34, u35, u36, u37, u38, u39, u40, u41, u42, u43, u44, u45, u46, u47, u48, u49, u50, u51, u52, u53, u54, u55, u56, u57, u58, u59, u60, u61, u62, u63, u64, u65, u66, u67, u68, u69, u70, u71, u72, u73, u74, u75, u76, u77, u78, u79, u80, u81, u82, u83, u84, u85, u86, u87, u88, u89, u90, u91, u92, u93, u94, u95, u96, u97, u98, u99, u100, u101, u102, u103, u104, u105, u106, u107, u108, u109, u110, u111, u112, u113, u114, u115, u116, u117, u118, u119, u120, u121, u122, u123, u124, u125, u126, u127, u128, u129, u130, u131, u132, u133, u134, u135, u136, u137, u138, u139, u140, u141, u142, u143, u144, u145, u146, u147, u148, u149, u150, u151, u152, u153, u154, u155, u156, u157, u158, u159, u160, u161, u162, u163, u164, u165, u166, u167, u168, u169, u170, u171, u172, u173, u174, u175, u176, u177, u178, u179, u180, u181, u182, u183, u184, u185, u186, u187, u188, u189, u190, u191, u192, u193, u194, u195, u196, u197, u198, u199, u200, u201, u202, u203, u204, u205, u206, u207, u208, u209, u210, u211, u212, u213, u214, u215, u216, u217, u218, u219, u220, u221, u222, u223, u224, u225, u226, u227, u228, u229, u230, u231, u232, u233, u234, u235, u236, u237, u238, u239, u240, u241, u242, u243, u244, u245, u246, u247, u248, u249, u250, u251, u252, u253, u254, u255, u256, u257, u258, u259, u260, u261, u262, u263, u264, u265, u266, u267, u268, u269, u270, u271, u272, u273, u274, u275, u276, u277, u278, u279, u280, u281, u282, u283, u284, u285, u286, u287, u288, u289, u290, u291, u292, u293, u294, u295, u296, u297], []⟩ W := by
  obtain ⟨o_, ho_⟩ : ∃ o, blkOf Try.f5 10 = o := ⟨_, rfl⟩
  rw [ho_]
  conv at ho_ => lhs; whnf
  subst ho_
  have HQ := Lib.hid hQ
  clear hQ
  obtain ⟨m, hm⟩ : ∃ m : Nat, c3 = c1 + (m : Int) := ⟨(c3 - c1).toNat, by omega⟩
  have HM := Lib.hid hm
  clear hm
  go_wp2_with fail
  go_loopg [9, 22] m (fun g a v wr => ∃ (j : Nat) (yi al : Int) (V' : Nat → Bool), j + g = m ∧ a = .int .i64 al ∧ v = .int .i64 yi ∧ Hid (yi = c1 + (j : Int) ∧ W.grownBy wr (some sg) ∧ wr.heap[sg]? = some (.cells (bA n V') 4 (0, 0)) ∧ SeenIs (b0, b1, b2, b3) V' (fun x' y' => P x' y' ∨ inR (c0, c1, c2, yi) x' y') ∧ al = A0 + (cntV V' n : Int)))
  case atStart => exact ⟨0, c1, all, V, by omega, rfl, rfl, Lib.hid ⟨by omega, grown_refl _ _, HS.out.1, seen_ext HS.out.2.1 (fun x' y' _ => ⟨fun h => h.elim id (fun h => absurd h (by unfold inR; dsimp only; omega)), Or.inl⟩), HS.out.2.2.1⟩⟩
  case round =>
    obtain ⟨j, yi, al, V', hjg, rfl, rfl, HI⟩ := hrel
    obtain ⟨wa, hwa⟩ : ∃ wa, wa = wr := ⟨wr, rfl⟩
    subst hwa
    have k3 : wa.cell? ⟨g5, o5 + i * 4 + 3, none⟩ = some (.int .i64 c3) := (cell_keep HI.out.2.1 (p := ⟨g5, _, none⟩) HC.out.1 HC.out.2.1).trans HC.out.2.2.2.2.2
    have k0 : wa.cell? ⟨g5, o5 + i * 4, none⟩ = some (.int .i64 c0) := (cell_keep HI.out.2.1 (p := ⟨g5, _, none⟩) HC.out.1 HC.out.2.1).trans HC.out.2.2.1
    by_cases hj : j < m
    · obtain ⟨g1, rfl⟩ : ∃ g1, gk = g1 + 1 := ⟨gk - 1, by omega⟩
      have hy1 : yi < c3 := by have := HI.out.1; have := HM.out; omega
      have hy0 : c1 ≤ yi := by have := HI.out.1; omega
      have HE2 : Hid (mg < wa.heap.size ∧ mg ≠ sg ∧ wa.cell? ⟨mg, mq + e * 4, none⟩ = some (.int .i64 b0) ∧ wa.cell? ⟨mg, mq + e * 4 + 1, none⟩ = some (.int .i64 b1) ∧ wa.cell? ⟨mg, mq + e * 4 + 2, none⟩ = some (.int .i64 b2) ∧ wa.cell? ⟨mg, mq + e * 4 + 3, none⟩ = some (.int .i64 b3)) := Lib.hid ⟨Nat.lt_of_lt_of_le HE.out.1 HI.out.2.1.size, HE.out.2.1, (cell_keep HI.out.2.1 (p := ⟨mg, _, none⟩) HE.out.1 HE.out.2.1).trans HE.out.2.2.1, (cell_keep HI.out.2.1 (p := ⟨mg, _, none⟩) HE.out.1 HE.out.2.1).trans HE.out.2.2.2.1, (cell_keep HI.out.2.1 (p := ⟨mg, _, none⟩) HE.out.1 HE.out.2.1).trans HE.out.2.2.2.2.1, (cell_keep HI.out.2.1 (p := ⟨mg, _, none⟩) HE.out.1 HE.out.2.1).trans HE.out.2.2.2.2.2⟩
      have HC2 : Hid (g5 < wa.heap.size ∧ g5 ≠ sg ∧ wa.cell? ⟨g5, o5 + i * 4, none⟩ = some (.int .i64 c0) ∧ wa.cell? ⟨g5, o5 + i * 4 + 1, none⟩ = some (.int .i64 c1) ∧ wa.cell? ⟨g5, o5 + i * 4 + 2, none⟩ = some (.int .i64 c2) ∧ wa.cell? ⟨g5, o5 + i * 4 + 3, none⟩ = some (.int .i64 c3)) := Lib.hid ⟨Nat.lt_of_lt_of_le HC.out.1 HI.out.2.1.size, HC.out.2.1, (cell_keep HI.out.2.1 (p := ⟨g5, _, none⟩) HC.out.1 HC.out.2.1).trans HC.out.2.2.1, (cell_keep HI.out.2.1 (p := ⟨g5, _, none⟩) HC.out.1 HC.out.2.1).trans HC.out.2.2.2.1, (cell_keep HI.out.2.1 (p := ⟨g5, _, none⟩) HC.out.1 HC.out.2.1).trans HC.out.2.2.2.2.1, (cell_keep HI.out.2.1 (p := ⟨g5, _, none⟩) HC.out.1 HC.out.2.1).trans HC.out.2.2.2.2.2⟩
      have HXN : Hid (yi + 1 = c1 + ((j + 1 : Nat) : Int)) := Lib.hid (by have := HI.out.1; omega)
      have HF2 : Hid (∀ x, c0 ≤ x → x < c2 → ¬ (P x yi ∨ inR (c0, c1, c2, yi) x yi)) := Lib.hid fun x h1 h2 h => by
        rcases h with h | h
        · exact HF.out x yi ⟨h1, h2, hy0, hy1⟩ h
        · unfold inR at h; dsimp only at h; omega
      go_upto_block 12 with fail
      clear k0 k3
      refine wp_code (c' := blkOf Try.f5 12) (by kernel_rfl) (cvX mg mq e bn MC sg n g5 o5 bl C5 i b0 b1 b2 b3 c0 c1 c2 c3 yi al A0 V' (fun x' y' => P x' y' ∨ inR (c0, c1, c2, yi) x' y') wa HE2 HC2 (Lib.hid ⟨HI.out.2.2.1, HI.out.2.2.2.1, HI.out.2.2.2.2, HS.out.2.2.2⟩) HF2 hb (by omega) heI hiI hA hn ?_)
      intro v2 v24 v202 v203 v204 v205 v206 v207 v208 v209 v210 v211 v212 v213 v214 v215 v216 v217 v218 v219 v220 v221 v222 v223 v224 v225 v226 v227 v228 v229 v230 v231 v232 v233 v234 v235 v236 v237 v238 v239 v240 v241 v242 v243 v244 v245 v246 v247 v248 v249 v250 v251 v252 v253 v254 v255 v256 v257 v258 v259 v260 v261 v262 v263 v264 v265 v266 v267 v268 v269 v270 v271 v272 v273 v274 v275 v276 v277 v278 v279 v280 v281 v282 W' V2 al2 H2
      have HN : Hid (W.grownBy W' (some sg) ∧ W'.heap[sg]? = some (.cells (bA n V2) 4 (0, 0)) ∧ SeenIs (b0, b1, b2, b3) V2 (fun x' y' => P x' y' ∨ inR (c0, c1, c2, yi + 1) x' y') ∧ al2 = A0 + (cntV V2 n : Int)) := Lib.hid ⟨grown_two HI.out.2.1 H2.out.1, H2.out.2.1, seen_ext H2.out.2.2.1 (fun x' y' _ => by
        unfold inR
        dsimp only
        constructor
        · rintro (h | ⟨h1, h2, h3, h4⟩)
          · exact Or.inl (Or.inl h)
          · rcases (by omega : y' < yi ∨ y' = yi) with h | h
            · exact Or.inl (Or.inr ⟨h1, h2, h3, h⟩)
            · exact Or.inr ⟨h, h1, h2⟩
        · rintro ((h | ⟨h1, h2, h3, h4⟩) | ⟨h1, h2, h3⟩)
          · exact Or.inl h
          · exact Or.inr ⟨h1, h2, h3, by omega⟩
          · exact Or.inr ⟨h2, h3, by omega, by omega⟩), H2.out.2.2.2⟩
      clear H2 HI HE2 HC2 HF2
      go_wp2
      go_roundg g1
      case measure => omega
      case rel => exact ⟨j + 1, yi + 1, al2, V2, by omega, rfl, rfl, Lib.hid ⟨HXN.out, HN.out⟩⟩
    · obtain rfl : j = m := by omega
      have hx2 : yi = c3 := by have := HI.out.1; have := HM.out; omega
      subst hx2
      have hlc : ¬ yi < yi := by omega
      go_wp2_with fail
      exact HQ.out _ _ _ _ _ _ _ _ _ _ _ _ _ _ _ _ _ _ _ _ _ _ _ _ _ _ _ _ _ _ _ _ _ _ _ _ _ _ _ _ _ _ _ _ _ _ _ _ _ _ _ _ _ _ _ _ _ _ _ _ _ _ _ _ _ _ _ _ _ _ _ _ _ _ _ _ _ _ _ _ _ _ _ _ _ _ _ _ _ _ _ _ _ _ _ _ _ _ wa V' al (Lib.hid HI.out.2)
end Go.Proofs.Ythcpmonahmogaaa
