/- canvas: the precincts of a band are gone through. -/
import Derived.Test.YthcpmonahmogaaaCvV4
import Derived.Laws.Rows
import Derived.Deep.QuietTactic
import Derived.BigQuiet
import Derived.Deep.CutRange
import Derived.Deep.CutBlock
import Derived.Deep.LoopGhost
set_option linter.unusedVariables false
set_option linter.unusedSimpArgs false
namespace Go.Proofs.Ythcpmonahmogaaa
open Go.RowKit
set_option maxRecDepth 100000
set_option maxHeartbeats 16000000 in
theorem cvK {u0 u1 u2 u3 u5 u6 u7 u8 u12 u19 u20 u21 u22 u23 u24 u25 u26 u27 u28 u29 u30 u31 u32 u33 u34 u35 u36 u37 u38 u39 u40 u41 u42 u43 u44 u45 u46 u47 u48 u49 u50 u51 u52 u53 u54 u55 u56 u57 u58 u59 u60 u61 u62 u63 u64 u65 u66 u67 u68 u69 u70 u71 u72 u73 u74 u75 u76 u77 u78 u79 u80 u81 u82 u83 u84 u85 u86 u87 u88 u89 u90 u91 u92 u93 u94 u95 u96 u97 u98 u99 u100 u101 u102 u103 u104 u105 u106 u107 u108 u109 u110 u111 u112 u113 u114 u115 u116 u117 u118 u119 u120 u121 u122 u123 u124 u125 u126 u127 u128 u129 u130 u131 u132 u133 u134 u135 u136 u137 u138 u139 u140 u141 u142 u143 u144 u145 u146 u147 u148 u149 u150 u151 u152 u153 u154 u155 u156 u157 u158 u159 u160 u161 u162 u163 u164 u165 u166 u167 u168 u169 u170 u171 u172 u173 u174 u175 u176 u177 u178 u179 u180 u181 u182 u183 u184 u185 u186 u187 u188 u189 u190 u191 u192 u193 u194 u195 u196 u197 u198 u199 u200 u201 u202 u203 u204 u205 u206 u207 u208 u209 u210 u211 u212 u213 u214 u215 u216 u217 u218 u219 u220 u221 u222 u223 u224 u225 u226 u227 u228 u229 u230 u231 u232 u233 u234 u235 u236 u237 u238 u239 u240 u241 u242 u243 u244 u245 u246 u247 u248 u249 u250 u251 u252 u253 u254 u255 u256 u257 u258 u259 u260 u261 u262 u263 u264 u265 u266 u267 u268 u269 u270 u271 u272 u273 u274 u275 u276 u277 u278 u279 u280 u281 u282 u283 u284 u285 u286 u287 u288 u289 u290 u291 u292 u293 u294 u295 u296 u297 : Value} (mg mq e bn MC sg n pb q10 r TN : Nat) (TX TY ST OD : Int) (LV BW BH PR LY : Nat) (RC SO EP : Bool) (b0 b1 b2 b3 z0 z1 z2 z3 CWI RHI T all A0 : Int) (V : Nat → Bool) (pO : Int → Int → Nat) (bO : Nat → Int → Int → Nat) (BLf : Nat → List Rc4) (wf : Nat → Int) (W : World)
    (HE : Hid (mg < W.heap.size ∧ mg ≠ sg ∧ W.cell? ⟨mg, mq + e * 4, none⟩ = some (.int .i64 b0) ∧ W.cell? ⟨mg, mq + e * 4 + 1, none⟩ = some (.int .i64 b1) ∧ W.cell? ⟨mg, mq + e * 4 + 2, none⟩ = some (.int .i64 b2) ∧ W.cell? ⟨mg, mq + e * 4 + 3, none⟩ = some (.int .i64 b3))) (HP : Hid (pb < W.heap.size ∧ pb ≠ sg ∧ W.heap[pb]? = some (.cells #[.int .i64 TX, .int .i64 TY, .int .i64 (LV : Int), .int .i64 (BW : Int), .int .i64 (BH : Int), .int .i64 (PR : Int), .int .i64 ST, .int .i64 OD, .int .i64 (LY : Int), .bool RC, .bool SO, .bool EP] 26 (0, 0)) ∧ q10 < W.heap.size ∧ q10 ≠ sg ∧ W.heap[q10]? = some (.cells #[.int .i64 z0, .int .i64 z1, .int .i64 z2, .int .i64 z3] 48 (0, 0)))) (HS : Hid (W.heap[sg]? = some (.cells (bA n V) 4 (0, 0)) ∧ SeenIs (b0, b1, b2, b3) V (fun _ _ => False) ∧ all = A0 + (cntV V n : Int) ∧ (n : Int) = (b2 - b0) * (b3 - b1)))
    (HT : Hid (wrap64 T = T ∧ CWI * RHI = T ∧ (TN : Int) = T)) (hTN : TN ≤ 625) (BK : Hid (∀ k, k < TN → ((BLf k).length ≤ 1000 ∧ ∀ u, Calls Try.prog 30 #[.agg #[.int .i64 b0, .int .i64 b1, .int .i64 b2, .int .i64 b3], .agg #[.int .i64 z0, .int .i64 z1, .int .i64 z2, .int .i64 z3], .agg #[.int .i64 TX, .int .i64 TY, .int .i64 (LV : Int), .int .i64 (BW : Int), .int .i64 (BH : Int), .int .i64 (PR : Int), .int .i64 ST, .int .i64 OD, .int .i64 (LY : Int), .bool RC, .bool SO, .bool EP], .int .i64 (r : Int), .int .i64 (k : Int)] u fun e w' => ∃ A c, e = .returned (.tuple #[.slice A (BLf k).length c, .int .i64 (wf k)]) ∧ RcL w' w'.heap.size (.slice A (BLf k).length c) (BLf k) ∧ Below u.heap.size u w'))) (CV : Hid ((∀ k, k < TN → ∀ j s, (BLf k)[j]? = some s → (b0 ≤ s.1 ∧ s.1 ≤ s.2.2.1 ∧ s.2.2.1 ≤ b2 ∧ b1 ≤ s.2.1 ∧ s.2.1 ≤ s.2.2.2 ∧ s.2.2.2 ≤ b3) ∧ ∀ x y, inR s x y ↔ inR (b0, b1, b2, b3) x y ∧ pO x y = k ∧ bO k x y = j) ∧ ∀ x y, inR (b0, b1, b2, b3) x y → pO x y < TN ∧ bO (pO x y) x y < (BLf (pO x y)).length))
    (hb : 0 ≤ b0 ∧ b2 ≤ 25) (hy : 0 ≤ b1 ∧ b3 ≤ 25) (heI : (e : Int) < (bn : Int) ∧ (0 : Int) ≤ (e : Int)) (hA : 0 ≤ A0 ∧ A0 ≤ 100000) (hn : n ≤ 625) (hcr : (0 ≤ CWI ∧ CWI ≤ 25) ∧ (0 ≤ RHI ∧ RHI ≤ 25)) {Q : Exit → Act → World → Prop}
    (hQ : ∀ (v2 v19 v20 v21 v22 v23 v24 v158 v159 v160 v161 v162 v163 v164 v165 v166 v167 v168 v169 v170 v171 v172 v173 v174 v175 v176 v177 v178 v179 v180 v181 v182 v183 v184 v185 v186 v187 v188 v189 v190 v191 v192 v193 v194 v195 v196 v197 v198 v199 v200 v201 v202 v203 v204 v205 v206 v207 v208 v209 v210 v211 v212 v213 v214 v215 v216 v217 v218 v219 v220 v221 v222 v223 v224 v225 v226 v227 v228 v229 v230 v231 v232 v233 v234 v235 v236 v237 v238 v239 v240 v241 v242 v243 v244 v245 v246 v247 v248 v249 v250 v251 v252 v253 v254 v255 v256 v257 v258 v259 v260 v261 v262 v263 v264 v265 v266 v267 v268 v269 v270 v271 v272 v273 v274 v275 v276 v277 v278 v279 v280 v281 v282 : Value) (W' : World) (V' : Nat → Bool) (all' : Int), Hid (W.grownBy W' (some sg) ∧ W'.heap[sg]? = some (.cells (bA n V') 4 (0, 0)) ∧ SeenIs (b0, b1, b2, b3) V' (fun x y => pO x y < TN) ∧ all' = A0 + (cntV V' n : Int)) → Q .normal ⟨#[u0, u1, v2, u3, .pointer (some ⟨pb, 0, none⟩), u5, u6, u7, u8, (.int .i64 all'), .int .i64 (r : Int), .pointer (some ⟨q10, 0, none⟩), u12, .slice (some ⟨mg, mq, none⟩) bn MC, .int .i64 CWI, .int .i64 RHI, .int .i64 (e : Int), .slice (some ⟨sg, 0, none⟩) n n, .int .i64 T, v19, v20, v21, v22, v23, v24, u25, u26, u27, u28, u29, u30, u31, u32, u33, u34, u35, u36, u37, u38, u39, u40, u41, u42, u43, u44, u45, u46, u47, u48, u49, u50, u51, u52, u53, u54, u55, u56, u57, u58, u59, u60, u61, u62, u63, u64, u65, u66, u67, u68, u69, u70, u71, u72, u73, u74, u75, u76, u77, u78, u79, u80, u81, u82, u83, u84, u85, u86, u87, u88, u89, u90, u91, u92, u93, u94, u95, u96, u97, u98, u99, u100, u101, u102, u103, u104, u105, u106, u107, u108, u109, u110, u111, u112, u113, u114, u115, u116, u117, u118, u119, u120, u121, u122, u123, u124, u125, u126, u127, u128, u129, u130, u131, u132, u133, u134, u135, u136, u137, u138, u139, u140, u141, u142, u143, u144, u145, u146, u147, u148, u149, u150, u151, u152, u153, u154, u155, u156, u157, v158, v159, v160, v161, v162, v163, v164, v165, v166, v167, v168, v169, v170, v171, v172, v173, v174, v175, v176, v177, v178, v179, v180, v181, v182, v183, v184, v185, v186, v187, v188, v189, v190, v191, v192, v193, v194, v195, v196, v197, v198, v199, v200, v201, v202, v203, v204, v205, v206, v207, v208, v209, v210, v211, v212, v213, v214, v215, v216, v217, v218, v219, v220, v221, v222, v223, v224, v225, v226, v227, v228, v229, v230, v231, v232, v233, v234, v235, v236, v237, v238, v239, v240, v241, v242, v243, v244, v245, v246, v247, v248, v249, v250, v251, v252, v253, v254, v255, v256, v257, v258, v259, v260, v261, v262, v263, v264, v265, v266, v267, v268, v269, v270, v271, v272, v273, v274, v275, v276, v277, v278, v279, v280, v281, v282, u283, u284, u285, u286, u287, u288, u289, u290, u291, u292, u293, u294, u295, u296, u297], []⟩ W') :
    (blkOf Try.f5 6).wp Try.prog Q ⟨#[u0, u1, u2, u3, .pointer (some ⟨pb, 0, none⟩), u5, u6, u7, u8, .int .i64 all, .int .i64 (r : Int), .pointer (some ⟨q10, 0, none⟩), u12, .slice (some ⟨mg, mq, none⟩) bn MC, .int .i64 CWI, .int .i64 RHI, .int .i64 (e : Int), .slice (some ⟨sg, 0, none⟩) n n, .int .i64 0, u19, u20, u21, u22, u23, u24, u25, u26, u27, u28, u29, u30, u31, u32, u33, u34, u35, u36, u37, u38, u39, u40, u41, u42, u43, u44, u45, u46, u47, u48, u49, u50, u51, u52, u53, u54, u55, u56, u57, u58, u59, u60, u61, u62, u63, u64, u65, u66, u67, u68, u69, u70, u71, u72, u73, u74, u75, u76, u77, u78, u79, u80, u81, u82, u83, u84, u85, u86, u87, u88, u89, u90, u91, u92, u93, u94, u95, u96, u97, u98, u99, u100, u101, u102, u103, u104, u105, u106, u107, u108, u109, u110, u111, u112, u113, u114, u115, u116, u117, u118, u119, u120, u121, u122, u123, u124, u125, u126, u127, u128, u129, u130, u131, u132, u133, u134, u135, u136, u137, u138, u139, u140, u141, u142, u143, u144, u145, u146, u147, u148, u149, u150, u151, u152, u153, u154, u155, u156, u157, u158, u159, u160, u161, u162, u163, u164, u165, u166, u167, u168, u169, u170, u171, u172, u173, u174, u175, u176, u177, u178, u179, u180, u181, u182, u183, u184, u185, u186, u187, u188, u189, u190, u191, u192, u193, u194, u195, u196, u197, u198, u199, u200, u201, u202, u203, u204, u205, u206, u207, u208, u209, u210, u211, u212, u213, u214, u215, u216, u217, u218, u219, u220, u221, u222, u223, u224, u225, u226, u227, u228, u229, u230, u231, u232, u233, u234, u235, u236, u237, u238, u239, u240, u241, u242, u243, u244, u245, u246, u247, u248, u249, u250, u251, u252, u253, u254, u255, u256, u257, u258, u259, u260, u261, u262, u263, u264, u265, u266, u267, u268, u269, u270, u271, u272, u273, u274, u275, u276, u277, u278, u279, u280, u281, u282, u283, u284, u285, u286, u287, u288, u289, u290, u291, u292, u293, u294, u295, u296, u297], []⟩ W := by
  obtain ⟨o_, ho_⟩ : ∃ o, blkOf Try.f5 6 = o := ⟨_, rfl⟩
  rw [ho_]
  conv at ho_ => lhs; whnf
  subst ho_
  have HQ := Lib.hid hQ
  clear hQ
  go_wp2_with fail
  go_loopg [9, 18] TN (fun g a v wr => ∃ (k : Nat) (al : Int) (V' : Nat → Bool), k + g = TN ∧ a = .int .i64 al ∧ v = .int .i64 (k : Int) ∧ Hid (W.grownBy wr (some sg) ∧ wr.heap[sg]? = some (.cells (bA n V') 4 (0, 0)) ∧ SeenIs (b0, b1, b2, b3) V' (fun x y => pO x y < k) ∧ al = A0 + (cntV V' n : Int)))
  case atStart => exact ⟨0, all, V, by omega, rfl, rfl, Lib.hid ⟨grown_refl _ _, HS.out.1, seen_ext HS.out.2.1 (fun x' y' _ => ⟨fun h => absurd h (by omega), fun h => h.elim⟩), HS.out.2.2.1⟩⟩
  case round =>
    obtain ⟨k, al, V', hig, rfl, rfl, HI⟩ := hrel
    obtain ⟨wa, hwa⟩ : ∃ wa, wa = wr := ⟨wr, rfl⟩
    subst hwa
    have hk0 : (0 : Int) ≤ (k : Int) := by omega
    have hkn : ((k : Int) < T) = (k < TN) := propext (by have := HT.out.2.2; omega)
    by_cases hj : k < TN
    · obtain ⟨g1, rfl⟩ : ∃ g1, gk = g1 + 1 := ⟨gk - 1, by omega⟩
      have hkI : (k : Int) < T := by rw [hkn]; exact hj
      clear hkn
      have HE2 : Hid (mg < wa.heap.size ∧ mg ≠ sg ∧ wa.cell? ⟨mg, mq + e * 4, none⟩ = some (.int .i64 b0) ∧ wa.cell? ⟨mg, mq + e * 4 + 1, none⟩ = some (.int .i64 b1) ∧ wa.cell? ⟨mg, mq + e * 4 + 2, none⟩ = some (.int .i64 b2) ∧ wa.cell? ⟨mg, mq + e * 4 + 3, none⟩ = some (.int .i64 b3)) := Lib.hid ⟨Nat.lt_of_lt_of_le HE.out.1 HI.out.1.size, HE.out.2.1, (cell_keep HI.out.1 (p := ⟨mg, _, none⟩) HE.out.1 HE.out.2.1).trans HE.out.2.2.1, (cell_keep HI.out.1 (p := ⟨mg, _, none⟩) HE.out.1 HE.out.2.1).trans HE.out.2.2.2.1, (cell_keep HI.out.1 (p := ⟨mg, _, none⟩) HE.out.1 HE.out.2.1).trans HE.out.2.2.2.2.1, (cell_keep HI.out.1 (p := ⟨mg, _, none⟩) HE.out.1 HE.out.2.1).trans HE.out.2.2.2.2.2⟩
      have HP2 : Hid (pb < wa.heap.size ∧ pb ≠ sg ∧ wa.heap[pb]? = some (.cells #[.int .i64 TX, .int .i64 TY, .int .i64 (LV : Int), .int .i64 (BW : Int), .int .i64 (BH : Int), .int .i64 (PR : Int), .int .i64 ST, .int .i64 OD, .int .i64 (LY : Int), .bool RC, .bool SO, .bool EP] 26 (0, 0)) ∧ q10 < wa.heap.size ∧ q10 ≠ sg ∧ wa.heap[q10]? = some (.cells #[.int .i64 z0, .int .i64 z1, .int .i64 z2, .int .i64 z3] 48 (0, 0))) := Lib.hid ⟨Nat.lt_of_lt_of_le HP.out.1 HI.out.1.size, HP.out.2.1, (HI.out.1.block pb HP.out.1 (fun e => HP.out.2.1 (Option.some.inj e))).trans HP.out.2.2.1, Nat.lt_of_lt_of_le HP.out.2.2.2.1 HI.out.1.size, HP.out.2.2.2.2.1, (HI.out.1.block q10 HP.out.2.2.2.1 (fun e => HP.out.2.2.2.2.1 (Option.some.inj e))).trans HP.out.2.2.2.2.2⟩
      have BK1 := Lib.hid ((BK.out k hj).2)
      have hbl := (BK.out k hj).1
      have hcov := CV.out.1 k hj
      obtain ⟨BL, hBL⟩ : ∃ B, BLf k = B := ⟨_, rfl⟩
      obtain ⟨bwd, hbwd⟩ : ∃ B, wf k = B := ⟨_, rfl⟩
      obtain ⟨bl, hbll⟩ : ∃ B, BL.length = B := ⟨_, rfl⟩
      rw [hBL, hbwd, hbll] at BK1
      rw [hBL] at hcov
      rw [hBL, hbll] at hbl
      have HBL : Hid (BLf k = BL ∧ BL.length = bl) := Lib.hid ⟨hBL, hbll⟩
      have HCV := Lib.hid hcov
      clear hBL hbwd hbll hcov
      have s1 := HT.out.1
      have s2 := HT.out.2.1
      go_upto_region 29 with fail
      clear s1 s2
      go_cut [19, 20] from 165 to 176 (fun a b wx => ∃ A5 C5, a = .slice A5 bl C5 ∧ b = .int .i64 bwd ∧ Hid (Below wa.heap.size wa wx ∧ RcL wx wx.heap.size (.slice A5 bl C5) BL))
      case first =>
        obtain ⟨VL, hVL⟩ : ∃ VL : Option Addr × Nat → List (Nat × Nat × Value), VL = fun z => [(0, 166, .slice (some ⟨mg, mq, none⟩) bn MC), (1, 167, .int .i64 (e : Int)), (2, 168, .pointer (some ⟨mg, mq + e * 4, none⟩)), (3, 169, .agg #[.int .i64 b0, .int .i64 b1, .int .i64 b2, .int .i64 b3]), (4, 170, .agg #[.int .i64 z0, .int .i64 z1, .int .i64 z2, .int .i64 z3]), (5, 171, .agg #[.int .i64 TX, .int .i64 TY, .int .i64 (LV : Int), .int .i64 (BW : Int), .int .i64 (BH : Int), .int .i64 (PR : Int), .int .i64 ST, .int .i64 OD, .int .i64 (LY : Int), .bool RC, .bool SO, .bool EP]), (6, 172, .int .i64 (r : Int)), (7, 173, .int .i64 (k : Int)), (8, 174, .tuple #[.slice z.1 bl z.2, .int .i64 bwd]), (9, 165, .tuple #[.slice z.1 bl z.2, .int .i64 bwd]), (10, 175, .slice z.1 bl z.2), (11, 176, .int .i64 bwd), (12, 19, .slice z.1 bl z.2), (13, 20, .int .i64 bwd)] := ⟨_, rfl⟩
        have hok : ∀ z, manyOk 298 (VL z) := fun z => by rw [hVL]; exact okB_ok rfl
        have HVL := Lib.hid hVL
        have hvi : ∀ z, ∀ x ∈ VL z, x.1 < 14 := fun z => by rw [hVL]; exact ltB_ok rfl
        have HOK := Lib.hid hok
        have HVI := Lib.hid hvi
        clear hVL hok hvi
        refine (wpIn_wide (n := 9)).1 (regionIn_many (N := 298) (w := _) VL (fun L z w' => (bif L 8 then (Below wa.heap.size wa w' ∧ RcL w' w'.heap.size (.slice z.1 bl z.2) BL) else Below wa.heap.size wa w')) [(4, .pointer (some ⟨pb, 0, none⟩)), (10, .int .i64 (r : Int)), (11, .pointer (some ⟨q10, 0, none⟩)), (13, .slice (some ⟨mg, mq, none⟩) bn MC), (16, .int .i64 (e : Int)), (18, .int .i64 (k : Int))] (by kernel_rfl) (by kernel_rfl) rfl (by simp only [List.forall_mem_cons, List.not_mem_nil, false_imp_iff, implies_true, and_true]; exact ⟨rfl, rfl, rfl, rfl, rfl, rfl⟩) HVI.out (none, 0) ?start ?step ?fin)
        case start => exact (Below.refl _ _).drew
        case step =>
          intro gg_ hgN hgF ii_ hii_ L z w' hph hs hu
          have hF4 := hgF (4, .pointer (some ⟨pb, 0, none⟩)) (by simp)
          have hF10 := hgF (10, .int .i64 (r : Int)) (by simp)
          have hF11 := hgF (11, .pointer (some ⟨q10, 0, none⟩)) (by simp)
          have hF13 := hgF (13, .slice (some ⟨mg, mq, none⟩) bn MC) (by simp)
          have hF16 := hgF (16, .int .i64 (e : Int)) (by simp)
          have hF18 := hgF (18, .int .i64 (k : Int)) (by simp)
          have hL := hu.1
          have hii_ : ii_ < 14 := hii_
          clear hgF
          obtain rfl | rfl | rfl | rfl | rfl | rfl | rfl | rfl | rfl | rfl | rfl | rfl | rfl | rfl := (by omega : ii_ = 0 ∨ ii_ = 1 ∨ ii_ = 2 ∨ ii_ = 3 ∨ ii_ = 4 ∨ ii_ = 5 ∨ ii_ = 6 ∨ ii_ = 7 ∨ ii_ = 8 ∨ ii_ = 9 ∨ ii_ = 10 ∨ ii_ = 11 ∨ ii_ = 12 ∨ ii_ = 13)
          · skip
            have n8 : L 8 = false := not_yet hL fun h => shut_at hs 2 0 (by kernel_rfl) (shut_at hs 3 2 (by kernel_rfl) (shut_at hs 8 3 (by kernel_rfl) (h)))
            have n9 : L 9 = false := not_yet hL fun h => shut_at hs 2 0 (by kernel_rfl) (shut_at hs 3 2 (by kernel_rfl) (shut_at hs 8 3 (by kernel_rfl) (shut_at hs 9 8 (by kernel_rfl) (h))))
            have n10 : L 10 = false := not_yet hL fun h => shut_at hs 2 0 (by kernel_rfl) (shut_at hs 3 2 (by kernel_rfl) (shut_at hs 8 3 (by kernel_rfl) (shut_at hs 9 8 (by kernel_rfl) (shut_at hs 10 9 (by kernel_rfl) (h)))))
            have n12 : L 12 = false := not_yet hL fun h => shut_at hs 12 0 (by kernel_rfl) (h)
            try simp only [n8, n9, n10, n12, hL, cond_true, cond_false] at hph
            have e13 : (many gg_ L (VL z))[13]?.getD undef = .slice (some ⟨mg, mq, none⟩) bn MC := many_out3 hgN (HOK.out z) (by rw [HVL.out]; rfl) hF13
            refine opIn_run (v := .slice (some ⟨mg, mq, none⟩) bn MC) (w' := w') rfl rfl (fun c h => by cases h) (fun _ => trivial) ?_ ⟨z, by exact many_put3 (HOK.out _) (by rw [HVL.out]; rfl) hL, by simp only [upd, n8, n9, n10, n12, hL, Nat.reduceBEq, cond_true, cond_false]; exact hph⟩
            go_simp
          · skip
            have n8 : L 8 = false := not_yet hL fun h => shut_at hs 2 1 (by kernel_rfl) (shut_at hs 3 2 (by kernel_rfl) (shut_at hs 8 3 (by kernel_rfl) (h)))
            have n9 : L 9 = false := not_yet hL fun h => shut_at hs 2 1 (by kernel_rfl) (shut_at hs 3 2 (by kernel_rfl) (shut_at hs 8 3 (by kernel_rfl) (shut_at hs 9 8 (by kernel_rfl) (h))))
            have n10 : L 10 = false := not_yet hL fun h => shut_at hs 2 1 (by kernel_rfl) (shut_at hs 3 2 (by kernel_rfl) (shut_at hs 8 3 (by kernel_rfl) (shut_at hs 9 8 (by kernel_rfl) (shut_at hs 10 9 (by kernel_rfl) (h)))))
            have n12 : L 12 = false := not_yet hL fun h => shut_at hs 12 1 (by kernel_rfl) (h)
            try simp only [n8, n9, n10, n12, hL, cond_true, cond_false] at hph
            have e16 : (many gg_ L (VL z))[16]?.getD undef = .int .i64 (e : Int) := many_out3 hgN (HOK.out z) (by rw [HVL.out]; rfl) hF16
            refine opIn_run (v := .int .i64 (e : Int)) (w' := w') rfl rfl (fun c h => by cases h) (fun _ => trivial) ?_ ⟨z, by exact many_put3 (HOK.out _) (by rw [HVL.out]; rfl) hL, by simp only [upd, n8, n9, n10, n12, hL, Nat.reduceBEq, cond_true, cond_false]; exact hph⟩
            go_simp
          · skip
            have y0 : L 0 = true := up_at hu 0 (by kernel_rfl)
            have y1 : L 1 = true := up_at hu 1 (by kernel_rfl)
            have n8 : L 8 = false := not_yet hL fun h => shut_at hs 3 2 (by kernel_rfl) (shut_at hs 8 3 (by kernel_rfl) (h))
            have n9 : L 9 = false := not_yet hL fun h => shut_at hs 3 2 (by kernel_rfl) (shut_at hs 8 3 (by kernel_rfl) (shut_at hs 9 8 (by kernel_rfl) (h)))
            have n10 : L 10 = false := not_yet hL fun h => shut_at hs 3 2 (by kernel_rfl) (shut_at hs 8 3 (by kernel_rfl) (shut_at hs 9 8 (by kernel_rfl) (shut_at hs 10 9 (by kernel_rfl) (h))))
            have n12 : L 12 = false := not_yet hL fun h => shut_at hs 12 2 (by kernel_rfl) (h)
            try simp only [y0, y1, n8, n9, n10, n12, hL, cond_true, cond_false] at hph
            have e166 : (many gg_ L (VL z))[166]?.getD undef = .slice (some ⟨mg, mq, none⟩) bn MC := many_eval3 hgN (HOK.out z) (by rw [HVL.out]; rfl) y0
            have e167 : (many gg_ L (VL z))[167]?.getD undef = .int .i64 (e : Int) := many_eval3 hgN (HOK.out z) (by rw [HVL.out]; rfl) y1
            refine opIn_run (v := .pointer (some ⟨mg, mq + e * 4, none⟩)) (w' := w') rfl rfl (fun c h => by cases h) (fun _ => trivial) ?_ ⟨z, by exact many_put3 (HOK.out _) (by rw [HVL.out]; rfl) hL, by simp only [upd, y0, y1, n8, n9, n10, n12, hL, Nat.reduceBEq, cond_true, cond_false]; exact hph⟩
            go_simp
          · skip
            have y2 : L 2 = true := up_at hu 2 (by kernel_rfl)
            have n8 : L 8 = false := not_yet hL fun h => shut_at hs 8 3 (by kernel_rfl) (h)
            have n9 : L 9 = false := not_yet hL fun h => shut_at hs 8 3 (by kernel_rfl) (shut_at hs 9 8 (by kernel_rfl) (h))
            have n10 : L 10 = false := not_yet hL fun h => shut_at hs 8 3 (by kernel_rfl) (shut_at hs 9 8 (by kernel_rfl) (shut_at hs 10 9 (by kernel_rfl) (h)))
            have n12 : L 12 = false := not_yet hL fun h => shut_at hs 12 3 (by kernel_rfl) (h)
            try simp only [y2, n8, n9, n10, n12, hL, cond_true, cond_false] at hph
            have g0 := (hph.cell (p := ⟨mg, mq + e * 4, none⟩) HE2.out.1).trans HE2.out.2.2.1
            have g1 := (hph.cell (p := ⟨mg, mq + e * 4 + 1, none⟩) HE2.out.1).trans HE2.out.2.2.2.1
            have g2 := (hph.cell (p := ⟨mg, mq + e * 4 + 2, none⟩) HE2.out.1).trans HE2.out.2.2.2.2.1
            have g3 := (hph.cell (p := ⟨mg, mq + e * 4 + 3, none⟩) HE2.out.1).trans HE2.out.2.2.2.2.2
            have e168 : (many gg_ L (VL z))[168]?.getD undef = .pointer (some ⟨mg, mq + e * 4, none⟩) := many_eval3 hgN (HOK.out z) (by rw [HVL.out]; rfl) y2
            refine opIn_run (v := .agg #[.int .i64 b0, .int .i64 b1, .int .i64 b2, .int .i64 b3]) (w' := w') rfl rfl (fun c h => by cases h) (fun _ => trivial) ?_ ⟨z, by exact many_put3 (HOK.out _) (by rw [HVL.out]; rfl) hL, by simp only [upd, y2, n8, n9, n10, n12, hL, Nat.reduceBEq, cond_true, cond_false]; exact hph⟩
            go_simp
          · skip
            have n8 : L 8 = false := not_yet hL fun h => shut_at hs 8 4 (by kernel_rfl) (h)
            have n9 : L 9 = false := not_yet hL fun h => shut_at hs 8 4 (by kernel_rfl) (shut_at hs 9 8 (by kernel_rfl) (h))
            have n10 : L 10 = false := not_yet hL fun h => shut_at hs 8 4 (by kernel_rfl) (shut_at hs 9 8 (by kernel_rfl) (shut_at hs 10 9 (by kernel_rfl) (h)))
            have n12 : L 12 = false := not_yet hL fun h => shut_at hs 12 4 (by kernel_rfl) (h)
            try simp only [n8, n9, n10, n12, hL, cond_true, cond_false] at hph
            obtain ⟨v0, v1, v2, v3⟩ := rc_cells ((hph.block _ HP2.out.2.2.2.1).trans HP2.out.2.2.2.2.2)
            have e11 : (many gg_ L (VL z))[11]?.getD undef = .pointer (some ⟨q10, 0, none⟩) := many_out3 hgN (HOK.out z) (by rw [HVL.out]; rfl) hF11
            refine opIn_run (v := .agg #[.int .i64 z0, .int .i64 z1, .int .i64 z2, .int .i64 z3]) (w' := w') rfl rfl (fun c h => by cases h) (fun _ => trivial) ?_ ⟨z, by exact many_put3 (HOK.out _) (by rw [HVL.out]; rfl) hL, by simp only [upd, n8, n9, n10, n12, hL, Nat.reduceBEq, cond_true, cond_false]; exact hph⟩
            go_simp
          · skip
            have n8 : L 8 = false := not_yet hL fun h => shut_at hs 8 5 (by kernel_rfl) (h)
            have n9 : L 9 = false := not_yet hL fun h => shut_at hs 8 5 (by kernel_rfl) (shut_at hs 9 8 (by kernel_rfl) (h))
            have n10 : L 10 = false := not_yet hL fun h => shut_at hs 8 5 (by kernel_rfl) (shut_at hs 9 8 (by kernel_rfl) (shut_at hs 10 9 (by kernel_rfl) (h)))
            have n12 : L 12 = false := not_yet hL fun h => shut_at hs 12 5 (by kernel_rfl) (h)
            try simp only [n8, n9, n10, n12, hL, cond_true, cond_false] at hph
            obtain ⟨j0, j1, j2, j3, j4, j5, j6, j7, j8, j9, j10, j11⟩ := par_cells ((hph.block _ HP2.out.1).trans HP2.out.2.2.1)
            have e4 : (many gg_ L (VL z))[4]?.getD undef = .pointer (some ⟨pb, 0, none⟩) := many_out3 hgN (HOK.out z) (by rw [HVL.out]; rfl) hF4
            refine opIn_run (v := .agg #[.int .i64 TX, .int .i64 TY, .int .i64 (LV : Int), .int .i64 (BW : Int), .int .i64 (BH : Int), .int .i64 (PR : Int), .int .i64 ST, .int .i64 OD, .int .i64 (LY : Int), .bool RC, .bool SO, .bool EP]) (w' := w') rfl rfl (fun c h => by cases h) (fun _ => trivial) ?_ ⟨z, by exact many_put3 (HOK.out _) (by rw [HVL.out]; rfl) hL, by simp only [upd, n8, n9, n10, n12, hL, Nat.reduceBEq, cond_true, cond_false]; exact hph⟩
            go_simp
          · skip
            have n8 : L 8 = false := not_yet hL fun h => shut_at hs 8 6 (by kernel_rfl) (h)
            have n9 : L 9 = false := not_yet hL fun h => shut_at hs 8 6 (by kernel_rfl) (shut_at hs 9 8 (by kernel_rfl) (h))
            have n10 : L 10 = false := not_yet hL fun h => shut_at hs 8 6 (by kernel_rfl) (shut_at hs 9 8 (by kernel_rfl) (shut_at hs 10 9 (by kernel_rfl) (h)))
            have n12 : L 12 = false := not_yet hL fun h => shut_at hs 12 6 (by kernel_rfl) (h)
            try simp only [n8, n9, n10, n12, hL, cond_true, cond_false] at hph
            have e10 : (many gg_ L (VL z))[10]?.getD undef = .int .i64 (r : Int) := many_out3 hgN (HOK.out z) (by rw [HVL.out]; rfl) hF10
            refine opIn_run (v := .int .i64 (r : Int)) (w' := w') rfl rfl (fun c h => by cases h) (fun _ => trivial) ?_ ⟨z, by exact many_put3 (HOK.out _) (by rw [HVL.out]; rfl) hL, by simp only [upd, n8, n9, n10, n12, hL, Nat.reduceBEq, cond_true, cond_false]; exact hph⟩
            go_simp
          · skip
            have n8 : L 8 = false := not_yet hL fun h => shut_at hs 8 7 (by kernel_rfl) (h)
            have n9 : L 9 = false := not_yet hL fun h => shut_at hs 8 7 (by kernel_rfl) (shut_at hs 9 8 (by kernel_rfl) (h))
            have n10 : L 10 = false := not_yet hL fun h => shut_at hs 8 7 (by kernel_rfl) (shut_at hs 9 8 (by kernel_rfl) (shut_at hs 10 9 (by kernel_rfl) (h)))
            have n12 : L 12 = false := not_yet hL fun h => shut_at hs 12 7 (by kernel_rfl) (h)
            try simp only [n8, n9, n10, n12, hL, cond_true, cond_false] at hph
            have e18 : (many gg_ L (VL z))[18]?.getD undef = .int .i64 (k : Int) := many_out3 hgN (HOK.out z) (by rw [HVL.out]; rfl) hF18
            refine opIn_run (v := .int .i64 (k : Int)) (w' := w') rfl rfl (fun c h => by cases h) (fun _ => trivial) ?_ ⟨z, by exact many_put3 (HOK.out _) (by rw [HVL.out]; rfl) hL, by simp only [upd, n8, n9, n10, n12, hL, Nat.reduceBEq, cond_true, cond_false]; exact hph⟩
            go_simp
          · skip
            have y3 : L 3 = true := up_at hu 3 (by kernel_rfl)
            have y4 : L 4 = true := up_at hu 4 (by kernel_rfl)
            have y5 : L 5 = true := up_at hu 5 (by kernel_rfl)
            have y6 : L 6 = true := up_at hu 6 (by kernel_rfl)
            have y7 : L 7 = true := up_at hu 7 (by kernel_rfl)
            have n9 : L 9 = false := not_yet hL fun h => shut_at hs 9 8 (by kernel_rfl) (h)
            have n10 : L 10 = false := not_yet hL fun h => shut_at hs 9 8 (by kernel_rfl) (shut_at hs 10 9 (by kernel_rfl) (h))
            have n12 : L 12 = false := not_yet hL fun h => shut_at hs 12 8 (by kernel_rfl) (h)
            try simp only [y3, y4, y5, y6, y7, n9, n10, n12, hL, cond_true, cond_false] at hph
            have e169 : (many gg_ L (VL z))[169]?.getD undef = .agg #[.int .i64 b0, .int .i64 b1, .int .i64 b2, .int .i64 b3] := many_eval3 hgN (HOK.out z) (by rw [HVL.out]; rfl) y3
            have e170 : (many gg_ L (VL z))[170]?.getD undef = .agg #[.int .i64 z0, .int .i64 z1, .int .i64 z2, .int .i64 z3] := many_eval3 hgN (HOK.out z) (by rw [HVL.out]; rfl) y4
            have e171 : (many gg_ L (VL z))[171]?.getD undef = .agg #[.int .i64 TX, .int .i64 TY, .int .i64 (LV : Int), .int .i64 (BW : Int), .int .i64 (BH : Int), .int .i64 (PR : Int), .int .i64 ST, .int .i64 OD, .int .i64 (LY : Int), .bool RC, .bool SO, .bool EP] := many_eval3 hgN (HOK.out z) (by rw [HVL.out]; rfl) y5
            have e172 : (many gg_ L (VL z))[172]?.getD undef = .int .i64 (r : Int) := many_eval3 hgN (HOK.out z) (by rw [HVL.out]; rfl) y6
            have e173 : (many gg_ L (VL z))[173]?.getD undef = .int .i64 (k : Int) := many_eval3 hgN (HOK.out z) (by rw [HVL.out]; rfl) y7
            refine opIn_call (f := 30) (args := #[.agg #[.int .i64 b0, .int .i64 b1, .int .i64 b2, .int .i64 b3], .agg #[.int .i64 z0, .int .i64 z1, .int .i64 z2, .int .i64 z3], .agg #[.int .i64 TX, .int .i64 TY, .int .i64 (LV : Int), .int .i64 (BW : Int), .int .i64 (BH : Int), .int .i64 (PR : Int), .int .i64 ST, .int .i64 OD, .int .i64 (LY : Int), .bool RC, .bool SO, .bool EP], .int .i64 (r : Int), .int .i64 (k : Int)]) (w' := w') rfl rfl (fun c h => by cases h) (fun _ => trivial) rfl (by go_simp) ((callsIn_wide.2 (BK1.out w')).mono ?_)
            rintro e w2 ⟨A5x, C5x, rfl, hrl, hbb⟩
            exact ⟨_, rfl, (A5x, C5x), by rw [show many gg_ L (VL z) = many gg_ L (VL (A5x, C5x)) from by rw [HVL.out]; simp only [many, y3, y4, y5, y6, y7, n9, n10, n12, hL, cond_false, cond_true]]; exact many_put3 (HOK.out _) (by rw [HVL.out]; rfl) hL, by simp only [upd, y3, y4, y5, y6, y7, n9, n10, n12, hL, Nat.reduceBEq, cond_true, cond_false]; exact ⟨hph.trans (hbb.mono hph.size), hrl⟩⟩
          · skip
            have y8 : L 8 = true := up_at hu 8 (by kernel_rfl)
            have n10 : L 10 = false := not_yet hL fun h => shut_at hs 10 9 (by kernel_rfl) (h)
            have n12 : L 12 = false := not_yet hL fun h => shut_at hs 12 9 (by kernel_rfl) (h)
            try simp only [y8, n10, n12, hL, cond_true, cond_false] at hph
            have e174 : (many gg_ L (VL z))[174]?.getD undef = .tuple #[.slice z.1 bl z.2, .int .i64 bwd] := many_eval3 hgN (HOK.out z) (by rw [HVL.out]; rfl) y8
            refine opIn_run (v := .tuple #[.slice z.1 bl z.2, .int .i64 bwd]) (w' := w') rfl rfl (fun c h => by cases h) (fun _ => trivial) ?_ ⟨z, by exact many_put3 (HOK.out _) (by rw [HVL.out]; rfl) hL, by simp only [upd, y8, n10, n12, hL, Nat.reduceBEq, cond_true, cond_false]; exact hph⟩
            go_simp
          · skip
            have y8 : L 8 = true := shut_at hs 9 8 (by kernel_rfl) (up_at hu 9 (by kernel_rfl))
            have y9 : L 9 = true := up_at hu 9 (by kernel_rfl)
            have n12 : L 12 = false := not_yet hL fun h => shut_at hs 12 10 (by kernel_rfl) (h)
            try simp only [y8, y9, n12, hL, cond_true, cond_false] at hph
            have e165 : (many gg_ L (VL z))[165]?.getD undef = .tuple #[.slice z.1 bl z.2, .int .i64 bwd] := many_eval3 hgN (HOK.out z) (by rw [HVL.out]; rfl) y9
            refine opIn_run (v := .slice z.1 bl z.2) (w' := w') rfl rfl (fun c h => by cases h) (fun _ => trivial) ?_ ⟨z, by exact many_put3 (HOK.out _) (by rw [HVL.out]; rfl) hL, by simp only [upd, y8, y9, n12, hL, Nat.reduceBEq, cond_true, cond_false]; exact hph⟩
            go_simp
          · skip
            have y8 : L 8 = true := shut_at hs 9 8 (by kernel_rfl) (up_at hu 9 (by kernel_rfl))
            have y9 : L 9 = true := up_at hu 9 (by kernel_rfl)
            try simp only [y8, y9, hL, cond_true, cond_false] at hph
            have e165 : (many gg_ L (VL z))[165]?.getD undef = .tuple #[.slice z.1 bl z.2, .int .i64 bwd] := many_eval3 hgN (HOK.out z) (by rw [HVL.out]; rfl) y9
            refine opIn_run (v := .int .i64 bwd) (w' := w') rfl rfl (fun c h => by cases h) (fun _ => trivial) ?_ ⟨z, by exact many_put3 (HOK.out _) (by rw [HVL.out]; rfl) hL, by simp only [upd, y8, y9, hL, Nat.reduceBEq, cond_true, cond_false]; exact hph⟩
            go_simp
          · skip
            have y0 : L 0 = true := up_at hu 0 (by kernel_rfl)
            have y1 : L 1 = true := up_at hu 1 (by kernel_rfl)
            have y2 : L 2 = true := up_at hu 2 (by kernel_rfl)
            have y3 : L 3 = true := up_at hu 3 (by kernel_rfl)
            have y4 : L 4 = true := up_at hu 4 (by kernel_rfl)
            have y5 : L 5 = true := up_at hu 5 (by kernel_rfl)
            have y6 : L 6 = true := up_at hu 6 (by kernel_rfl)
            have y7 : L 7 = true := up_at hu 7 (by kernel_rfl)
            have y8 : L 8 = true := up_at hu 8 (by kernel_rfl)
            have y9 : L 9 = true := up_at hu 9 (by kernel_rfl)
            have y10 : L 10 = true := up_at hu 10 (by kernel_rfl)
            try simp only [y0, y1, y2, y3, y4, y5, y6, y7, y8, y9, y10, hL, cond_true, cond_false] at hph
            have e175 : (many gg_ L (VL z))[175]?.getD undef = .slice z.1 bl z.2 := many_eval3 hgN (HOK.out z) (by rw [HVL.out]; rfl) y10
            refine opIn_run (v := .slice z.1 bl z.2) (w' := w') rfl rfl (fun c h => by cases h) (fun _ => trivial) ?_ ⟨z, by exact many_put3 (HOK.out _) (by rw [HVL.out]; rfl) hL, by simp only [upd, y0, y1, y2, y3, y4, y5, y6, y7, y8, y9, y10, hL, Nat.reduceBEq, cond_true, cond_false]; exact hph⟩
            go_simp
          · skip
            have y0 : L 0 = true := up_at hu 0 (by kernel_rfl)
            have y1 : L 1 = true := up_at hu 1 (by kernel_rfl)
            have y2 : L 2 = true := up_at hu 2 (by kernel_rfl)
            have y3 : L 3 = true := up_at hu 3 (by kernel_rfl)
            have y4 : L 4 = true := up_at hu 4 (by kernel_rfl)
            have y5 : L 5 = true := up_at hu 5 (by kernel_rfl)
            have y6 : L 6 = true := up_at hu 6 (by kernel_rfl)
            have y7 : L 7 = true := up_at hu 7 (by kernel_rfl)
            have y8 : L 8 = true := up_at hu 8 (by kernel_rfl)
            have y9 : L 9 = true := up_at hu 9 (by kernel_rfl)
            have y10 : L 10 = true := up_at hu 10 (by kernel_rfl)
            have y11 : L 11 = true := up_at hu 11 (by kernel_rfl)
            have y12 : L 12 = true := up_at hu 12 (by kernel_rfl)
            try simp only [y0, y1, y2, y3, y4, y5, y6, y7, y8, y9, y10, y11, y12, hL, cond_true, cond_false] at hph
            have e176 : (many gg_ L (VL z))[176]?.getD undef = .int .i64 bwd := many_eval3 hgN (HOK.out z) (by rw [HVL.out]; rfl) y11
            refine opIn_run (v := .int .i64 bwd) (w' := w') rfl rfl (fun c h => by cases h) (fun _ => trivial) ?_ ⟨z, by exact many_put3 (HOK.out _) (by rw [HVL.out]; rfl) hL, by simp only [upd, y0, y1, y2, y3, y4, y5, y6, y7, y8, y9, y10, y11, y12, hL, Nat.reduceBEq, cond_true, cond_false]; exact hph⟩
            go_simp
        case fin =>
          intro L z w' hall hph
          have l8 := hall 8 (by decide)
          simp only [l8, cond_true] at hph
          clear l8
          rw [HVL.out]
          dsimp only [manyL, List.set_cons_zero, List.set_cons_succ]
          clear hall HVL HOK HVI
          have HPx := Lib.hid hph
          clear hph
          go_wp2_with fail
          go_meet
          exact ⟨z.1, z.2, rfl, rfl, HPx⟩
      case rest =>
        obtain ⟨A5, C5, rfl, rfl, HX⟩ := hcut
        obtain ⟨w5, hw5⟩ : ∃ w5, w5 = wc := ⟨wc, rfl⟩
        subst hw5
        have hgr : W.grownBy w5 (some sg) := grown_two HI.out.1 (grown_of HX.out.1 (Nat.le_refl _))
        have hsg : w5.heap[sg]? = some (.cells (bA n V') 4 (0, 0)) := (HX.out.1.block sg (Array.getElem?_eq_some_iff.1 HI.out.2.1).1).trans HI.out.2.1
        have HE3 : Hid (mg < w5.heap.size ∧ mg ≠ sg ∧ w5.cell? ⟨mg, mq + e * 4, none⟩ = some (.int .i64 b0) ∧ w5.cell? ⟨mg, mq + e * 4 + 1, none⟩ = some (.int .i64 b1) ∧ w5.cell? ⟨mg, mq + e * 4 + 2, none⟩ = some (.int .i64 b2) ∧ w5.cell? ⟨mg, mq + e * 4 + 3, none⟩ = some (.int .i64 b3)) := Lib.hid ⟨Nat.lt_of_lt_of_le HE.out.1 hgr.size, HE.out.2.1, (cell_keep hgr (p := ⟨mg, _, none⟩) HE.out.1 HE.out.2.1).trans HE.out.2.2.1, (cell_keep hgr (p := ⟨mg, _, none⟩) HE.out.1 HE.out.2.1).trans HE.out.2.2.2.1, (cell_keep hgr (p := ⟨mg, _, none⟩) HE.out.1 HE.out.2.1).trans HE.out.2.2.2.2.1, (cell_keep hgr (p := ⟨mg, _, none⟩) HE.out.1 HE.out.2.1).trans HE.out.2.2.2.2.2⟩
        have HC3 : Hid (BL.length = bl ∧ ∀ j s, BL[j]? = some s → ∃ g5 o5, A5 = some ⟨g5, o5, none⟩ ∧ g5 < w5.heap.size ∧ g5 ≠ sg ∧ w5.cell? ⟨g5, o5 + j * 4, none⟩ = some (.int .i64 s.1) ∧ w5.cell? ⟨g5, o5 + j * 4 + 1, none⟩ = some (.int .i64 s.2.1) ∧ w5.cell? ⟨g5, o5 + j * 4 + 2, none⟩ = some (.int .i64 s.2.2.1) ∧ w5.cell? ⟨g5, o5 + j * 4 + 3, none⟩ = some (.int .i64 s.2.2.2)) := Lib.hid ⟨HBL.out.2, fun j s hs => by
          obtain ⟨A', c', hv, hc⟩ := HX.out.2
          injection hv with v1 v2 v3
          subst v1
          obtain ⟨g, o, h1, h2, h3, h4, h5, h6⟩ := hc j s hs
          refine ⟨g, o, h1, h2, fun e => ?_, h3, h4, h5, h6⟩
          subst e
          rw [blk_cell hsg] at h3
          unfold bA at h3
          simp at h3⟩
        have HFx : Hid ((∀ x y, pO x y < k → ¬ pO x y = k) ∧ ∀ j s, BL[j]? = some s → (b0 ≤ s.1 ∧ s.1 ≤ s.2.2.1 ∧ s.2.2.1 ≤ b2 ∧ b1 ≤ s.2.1 ∧ s.2.1 ≤ s.2.2.2 ∧ s.2.2.2 ≤ b3) ∧ ∀ x y, inR s x y ↔ inR (b0, b1, b2, b3) x y ∧ pO x y = k ∧ bO k x y = j) := Lib.hid ⟨fun x y h => by omega, HCV.out⟩
        have HS3 : Hid (w5.heap[sg]? = some (.cells (bA n V') 4 (0, 0)) ∧ SeenIs (b0, b1, b2, b3) V' (fun x y => pO x y < k) ∧ al = A0 + (cntV V' n : Int) ∧ (n : Int) = (b2 - b0) * (b3 - b1)) := Lib.hid ⟨hsg, HI.out.2.2.1, HI.out.2.2.2, HS.out.2.2.2⟩
        have HGR := Lib.hid hgr
        clear hgr hsg HX BK1 HE2 HP2
        go_upto_block 8 with fail
        refine wp_code (c' := blkOf Try.f5 8) (by kernel_rfl) (cvI mg mq e bn MC sg n bl C5 A5 b0 b1 b2 b3 al A0 V' (fun x y => pO x y < k) (fun x y => pO x y = k) (bO k) BL w5 HE3 HC3 HS3 HFx hb hy heI hA hn hbl ?_)
        intro v2 v22 v23 v24 v177 v178 v179 v180 v181 v182 v183 v184 v185 v186 v187 v188 v189 v190 v191 v192 v193 v194 v195 v196 v197 v198 v199 v200 v201 v202 v203 v204 v205 v206 v207 v208 v209 v210 v211 v212 v213 v214 v215 v216 v217 v218 v219 v220 v221 v222 v223 v224 v225 v226 v227 v228 v229 v230 v231 v232 v233 v234 v235 v236 v237 v238 v239 v240 v241 v242 v243 v244 v245 v246 v247 v248 v249 v250 v251 v252 v253 v254 v255 v256 v257 v258 v259 v260 v261 v262 v263 v264 v265 v266 v267 v268 v269 v270 v271 v272 v273 v274 v275 v276 v277 v278 v279 v280 v281 v282 W' V2 al2 H2
        have HN : Hid (W.grownBy W' (some sg) ∧ W'.heap[sg]? = some (.cells (bA n V2) 4 (0, 0)) ∧ SeenIs (b0, b1, b2, b3) V2 (fun x y => pO x y < k + 1) ∧ al2 = A0 + (cntV V2 n : Int)) := Lib.hid ⟨grown_two HGR.out H2.out.1, H2.out.2.1, seen_ext H2.out.2.2.1 (fun x' y' hin => by
          constructor
          · intro h
            rcases (by omega : pO x' y' < k ∨ pO x' y' = k) with h | h
            · exact Or.inl h
            · have h1 := (CV.out.2 x' y' hin).2
              rw [h, HBL.out.1, HBL.out.2] at h1
              exact Or.inr ⟨h, h1⟩
          · rintro (h | ⟨h, _⟩) <;> omega), H2.out.2.2.2⟩
        clear H2 HI HE3 HC3 HS3 HFx HCV HGR
        go_wp2
        go_roundg g1
        case measure => omega
        case rel => exact ⟨k + 1, al2, V2, by omega, rfl, by go_num, HN⟩
    · obtain rfl : k = TN := by omega
      have hlc : ¬ (k : Int) < T := by rw [hkn]; omega
      have hTE : (k : Int) = T := HT.out.2.2
      have HTE := Lib.hid hTE
      clear hkn hTE
      have s1 := HT.out.1
      have s2 := HT.out.2.1
      go_wp2_with fail
      rw [HTE.out]
      exact HQ.out _ _ _ _ _ _ _ _ _ _ _ _ _ _ _ _ _ _ _ _ _ _ _ _ _ _ _ _ _ _ _ _ _ _ _ _ _ _ _ _ _ _ _ _ _ _ _ _ _ _ _ _ _ _ _ _ _ _ _ _ _ _ _ _ _ _ _ _ _ _ _ _ _ _ _ _ _ _ _ _ _ _ _ _ _ _ _ _ _ _ _ _ _ _ _ _ _ _ _ _ _ _ _ _ _ _ _ _ _ _ _ _ _ _ _ _ _ _ _ _ _ _ _ _ _ _ _ _ _ _ _ _ wa V' al (Lib.hid HI.out)
end Go.Proofs.Ythcpmonahmogaaa
