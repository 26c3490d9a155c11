/- canvas: the resolutions of a tile's component are gone through. -/
import Derived.Test.YthcpmonahmogaaaCvV6
import Derived.Test.YthcpmonahmogaaaCvM9
import Derived.Laws.Rows
import Derived.Deep.QuietTactic
import Derived.BigQuiet
import Derived.Deep.CutRange
import Derived.Deep.CutBlock
import Derived.Deep.LoopGhost
set_option linter.unusedVariables false
set_option linter.unusedSimpArgs false
namespace Go.Proofs.Ythcpmonahmogaaa
open Go.RowKit
set_option maxRecDepth 100000
theorem sumA_bd : ∀ l : List Rc4, (∀ b ∈ l, RcOk 25 b) → 0 ≤ sumA l ∧ sumA l ≤ 625 * (l.length : Int)
  | [], _ => by simp [sumA]
  | r :: l, h => by
    have ih := sumA_bd l (fun b hb => h b (List.mem_cons_of_mem _ hb))
    obtain ⟨⟨⟨a1, a2⟩, ⟨a3, a4⟩, ⟨a5, a6⟩, a7, a8⟩, b1, b2⟩ := h r List.mem_cons_self
    have h1 : 0 ≤ areaR r := Int.mul_nonneg (by omega) (by omega)
    have h2 : areaR r ≤ 25 * 25 := Int.mul_le_mul (by omega) (by omega) (by omega) (by omega)
    rw [sumA, List.length_cons]
    omega
set_option maxHeartbeats 16000000 in
theorem cvR {u0 u1 u2 u3 u5 u6 u7 u11 u12 u13 u14 u15 u16 u17 u18 u19 u20 u21 u22 u23 u24 u25 u26 u27 u28 u29 u30 u31 u32 u33 u34 u35 u36 u37 u38 u39 u40 u41 u42 u43 u44 u45 u46 u47 u48 u49 u50 u51 u52 u53 u54 u55 u56 u57 u58 u59 u60 u61 u62 u63 u64 u65 u66 u67 u68 u69 u70 u71 u72 u73 u74 u75 u76 u77 u78 u79 u80 u81 u82 u83 u84 u85 u86 u87 u88 u89 u90 u91 u92 u93 u94 u95 u96 u97 u98 u99 u100 u101 u102 u103 u104 u105 u106 u107 u108 u109 u110 u111 u112 u113 u114 u115 u116 u117 u118 u119 u120 u121 u122 u123 u124 u125 u126 u127 u128 u129 u130 u131 u132 u133 u134 u135 u136 u137 u138 u139 u140 u141 u142 u143 u144 u145 u146 u147 u148 u149 u150 u151 u152 u153 u154 u155 u156 u157 u158 u159 u160 u161 u162 u163 u164 u165 u166 u167 u168 u169 u170 u171 u172 u173 u174 u175 u176 u177 u178 u179 u180 u181 u182 u183 u184 u185 u186 u187 u188 u189 u190 u191 u192 u193 u194 u195 u196 u197 u198 u199 u200 u201 u202 u203 u204 u205 u206 u207 u208 u209 u210 u211 u212 u213 u214 u215 u216 u217 u218 u219 u220 u221 u222 u223 u224 u225 u226 u227 u228 u229 u230 u231 u232 u233 u234 u235 u236 u237 u238 u239 u240 u241 u242 u243 u244 u245 u246 u247 u248 u249 u250 u251 u252 u253 u254 u255 u256 u257 u258 u259 u260 u261 u262 u263 u264 u265 u266 u267 u268 u269 u270 u271 u272 u273 u274 u275 u276 u277 u278 u279 u280 u281 u282 u283 u284 u285 u286 u287 u288 u289 u290 u291 u292 u293 u294 u295 u296 u297 : Value} (pb q8 : Nat) (TX TY ST OD : Int) (LV BW BH PR LY : Nat) (RC SO EP : Bool) (p0 p1 p2 p3 : Int) (W1 : World)
    (HM1 : Hid (pb + 1 ≤ W1.heap.size ∧ True ∧ W1.heap[pb]? = some (.cells #[.int .i64 TX, .int .i64 TY, .int .i64 (LV : Int), .int .i64 (BW : Int), .int .i64 (BH : Int), .int .i64 (PR : Int), .int .i64 ST, .int .i64 OD, .int .i64 (LY : Int), .bool RC, .bool SO, .bool EP] 26 (0, 0)) ∧ q8 < W1.heap.size ∧ W1.heap[q8]? = some (.cells #[.int .i64 p0, .int .i64 p1, .int .i64 p2, .int .i64 p3] 48 (0, 0)))) (HQ : Hid (RcOk 25 (p0, p1, p2, p3))) (hlv : LV ≤ 5) (hpr : 1 ≤ PR ∧ PR ≤ 15) (hbw : (2 ≤ BW ∧ BW ≤ 4) ∧ (2 ≤ BH ∧ BH ≤ 4)) {Q : Exit → Act → World → Prop}
    (hQ : ∀ (v2 v11 v12 v13 v14 v15 v16 v17 v18 v19 v20 v21 v22 v23 v24 v25 v120 v121 v122 v123 v124 v125 v126 v127 v128 v129 v130 v131 v132 v133 v134 v135 v136 v137 v138 v139 v140 v141 v142 v143 v144 v145 v146 v147 v148 v149 v150 v151 v152 v153 v154 v155 v156 v157 v158 v159 v160 v161 v162 v163 v164 v165 v166 v167 v168 v169 v170 v171 v172 v173 v174 v175 v176 v177 v178 v179 v180 v181 v182 v183 v184 v185 v186 v187 v188 v189 v190 v191 v192 v193 v194 v195 v196 v197 v198 v199 v200 v201 v202 v203 v204 v205 v206 v207 v208 v209 v210 v211 v212 v213 v214 v215 v216 v217 v218 v219 v220 v221 v222 v223 v224 v225 v226 v227 v228 v229 v230 v231 v232 v233 v234 v235 v236 v237 v238 v239 v240 v241 v242 v243 v244 v245 v246 v247 v248 v249 v250 v251 v252 v253 v254 v255 v256 v257 v258 v259 v260 v261 v262 v263 v264 v265 v266 v267 v268 v269 v270 v271 v272 v273 v274 v275 v276 v277 v278 v279 v280 v281 v282 v283 v284 v285 v286 v287 v288 v289 v290 v291 v292 v293 : Value) (W' : World), Hid (Below W1.heap.size W1 W') → Q .normal ⟨#[u0, u1, v2, u3, .pointer (some ⟨pb, 0, none⟩), u5, u6, u7, .pointer (some ⟨q8, 0, none⟩), (.int .i64 (areaR (p0, p1, p2, p3))), .int .i64 ((LV + 1 : Nat) : Int), v11, v12, v13, v14, v15, v16, v17, v18, v19, v20, v21, v22, v23, v24, v25, u26, u27, u28, u29, u30, u31, u32, u33, u34, u35, u36, u37, u38, u39, u40, u41, u42, u43, u44, u45, u46, u47, u48, u49, u50, u51, u52, u53, u54, u55, u56, u57, u58, u59, u60, u61, u62, u63, u64, u65, u66, u67, u68, u69, u70, u71, u72, u73, u74, u75, u76, u77, u78, u79, u80, u81, u82, u83, u84, u85, u86, u87, u88, u89, u90, u91, u92, u93, u94, u95, u96, u97, u98, u99, u100, u101, u102, u103, u104, u105, u106, u107, u108, u109, u110, u111, u112, u113, u114, u115, u116, u117, u118, u119, v120, v121, v122, v123, v124, v125, v126, v127, v128, v129, v130, v131, v132, v133, v134, v135, v136, v137, v138, v139, v140, v141, v142, v143, v144, v145, v146, v147, v148, v149, v150, v151, v152, v153, v154, v155, v156, v157, v158, v159, v160, v161, v162, v163, v164, v165, v166, v167, v168, v169, v170, v171, v172, v173, v174, v175, v176, v177, v178, v179, v180, v181, v182, v183, v184, v185, v186, v187, v188, v189, v190, v191, v192, v193, v194, v195, v196, v197, v198, v199, v200, v201, v202, v203, v204, v205, v206, v207, v208, v209, v210, v211, v212, v213, v214, v215, v216, v217, v218, v219, v220, v221, v222, v223, v224, v225, v226, v227, v228, v229, v230, v231, v232, v233, v234, v235, v236, v237, v238, v239, v240, v241, v242, v243, v244, v245, v246, v247, v248, v249, v250, v251, v252, v253, v254, v255, v256, v257, v258, v259, v260, v261, v262, v263, v264, v265, v266, v267, v268, v269, v270, v271, v272, v273, v274, v275, v276, v277, v278, v279, v280, v281, v282, v283, v284, v285, v286, v287, v288, v289, v290, v291, v292, v293, u294, u295, u296, u297], []⟩ W') :
    (blkOf Try.f5 2).wp Try.prog Q ⟨#[u0, u1, u2, u3, .pointer (some ⟨pb, 0, none⟩), u5, u6, u7, .pointer (some ⟨q8, 0, none⟩), .int .i64 0, .int .i64 0, u11, u12, u13, u14, u15, u16, u17, u18, u19, u20, u21, u22, u23, u24, u25, u26, u27, u28, u29, u30, u31, u32, u33, u34, u35, u36, u37, u38, u39, u40, u41, u42, u43, u44, u45, u46, u47, u48, u49, u50, u51, u52, u53, u54, u55, u56, u57, u58, u59, u60, u61, u62, u63, u64, u65, u66, u67, u68, u69, u70, u71, u72, u73, u74, u75, u76, u77, u78, u79, u80, u81, u82, u83, u84, u85, u86, u87, u88, u89, u90, u91, u92, u93, u94, u95, u96, u97, u98, u99, u100, u101, u102, u103, u104, u105, u106, u107, u108, u109, u110, u111, u112, u113, u114, u115, u116, u117, u118, u119, u120, u121, u122, u123, u124, u125, u126, u127, u128, u129, u130, u131, u132, u133, u134, u135, u136, u137, u138, u139, u140, u141, u142, u143, u144, u145, u146, u147, u148, u149, u150, u151, u152, u153, u154, u155, u156, u157, u158, u159, u160, u161, u162, u163, u164, u165, u166, u167, u168, u169, u170, u171, u172, u173, u174, u175, u176, u177, u178, u179, u180, u181, u182, u183, u184, u185, u186, u187, u188, u189, u190, u191, u192, u193, u194, u195, u196, u197, u198, u199, u200, u201, u202, u203, u204, u205, u206, u207, u208, u209, u210, u211, u212, u213, u214, u215, u216, u217, u218, u219, u220, u221, u222, u223, u224, u225, u226, u227, u228, u229, u230, u231, u232, u233, u234, u235, u236, u237, u238, u239, u240, u241, u242, u243, u244, u245, u246, u247, u248, u249, u250, u251, u252, u253, u254, u255, u256, u257, u258, u259, u260, u261, u262, u263, u264, u265, u266, u267, u268, u269, u270, u271, u272, u273, u274, u275, u276, u277, u278, u279, u280, u281, u282, u283, u284, u285, u286, u287, u288, u289, u290, u291, u292, u293, u294, u295, u296, u297], []⟩ W1 := by
  obtain ⟨o_, ho_⟩ : ∃ o, blkOf Try.f5 2 = o := ⟨_, rfl⟩
  rw [ho_]
  conv at ho_ => lhs; whnf
  subst ho_
  have HQQ := Lib.hid hQ
  clear hQ
  go_wp2_with fail
  go_loopg [9, 10] (LV + 1) (fun g a v wr => ∃ (r : Nat) (al : Int), r + g = LV + 1 ∧ a = .int .i64 al ∧ v = .int .i64 (r : Int) ∧ (0 ≤ al ∧ al ≤ 1875 * (r : Int)) ∧ Hid (al = bSum (p0, p1, p2, p3) LV r ∧ Below W1.heap.size W1 wr))
  case atStart => exact ⟨0, 0, by omega, rfl, rfl, by omega, Lib.hid ⟨rfl, Below.refl _ _⟩⟩
  case round =>
    obtain ⟨r, al, hig, rfl, rfl, hal, HI⟩ := hrel
    obtain ⟨wa, hwa⟩ : ∃ wa, wa = wr := ⟨wr, rfl⟩
    subst hwa
    have HBc := Lib.hid HI.out.2
    have HAL := Lib.hid HI.out.1
    clear HI
    by_cases hj : r ≤ LV
    · obtain ⟨g1, rfl⟩ : ∃ g1, gk = g1 + 1 := ⟨gk - 1, by omega⟩
      have hlrI : (r : Int) ≤ (LV : Int) ∧ (0 : Int) ≤ (r : Int) := by omega
      have hqq := HQ.out
      unfold RcOk inN at hqq
      simp only at hqq
      obtain ⟨z0, hz0⟩ : ∃ z, ceilF p0 ((2 ^ (LV - r) : Nat) : Int) = z := ⟨_, rfl⟩
      obtain ⟨z1, hz1⟩ : ∃ z, ceilF p1 ((2 ^ (LV - r) : Nat) : Int) = z := ⟨_, rfl⟩
      obtain ⟨z2, hz2⟩ : ∃ z, ceilF p2 ((2 ^ (LV - r) : Nat) : Int) = z := ⟨_, rfl⟩
      obtain ⟨z3, hz3⟩ : ∃ z, ceilF p3 ((2 ^ (LV - r) : Nat) : Int) = z := ⟨_, rfl⟩
      have hzk := over_ok HQ.out ((2 ^ (LV - r) : Nat) : Int) ((2 ^ (LV - r) : Nat) : Int) (pow16 _ (by omega)).1 (pow16 _ (by omega)).1 (by omega)
      simp only at hzk
      rw [hz0, hz1, hz2, hz3] at hzk
      have RS1 : Hid (∀ u, Calls Try.prog 23 #[.agg #[.int .i64 p0, .int .i64 p1, .int .i64 p2, .int .i64 p3], .int .i64 (LV : Int), .int .i64 (r : Int)] u fun e w' => e = .returned (.agg #[.int .i64 z0, .int .i64 z1, .int .i64 z2, .int .i64 z3]) ∧ Below u.heap.size u w') := Lib.hid fun u => by
        have := res_any (p0, p1, p2, p3) LV r u ⟨by simp only; omega, by simp only; omega, by simp only; omega, by simp only; omega⟩ (by omega)
        unfold rA overN at this
        simp only at this
        rw [hz0, hz1, hz2, hz3] at this
        exact this
      obtain ⟨kb, hkb⟩ : ∃ k, bandsK r = k := ⟨_, rfl⟩
      obtain ⟨rb, hrb⟩ : ∃ k, bandsR (p0, p1, p2, p3) LV r = k := ⟨_, rfl⟩
      have hbok := bands_ok HQ.out LV r (by omega) (by omega)
      have hbl := bands_len (p0, p1, p2, p3) LV r
      obtain ⟨bn, hbn⟩ : ∃ n, rb.length = n := ⟨_, rfl⟩
      rw [hrb] at hbok hbl
      rw [hkb, hbn] at hbl
      have BD1 : Hid (∀ u, Calls Try.prog 24 #[.agg #[.int .i64 p0, .int .i64 p1, .int .i64 p2, .int .i64 p3], .int .i64 (LV : Int), .int .i64 (r : Int)] u fun e w' => ∃ A1 c1 A2 c2, e = .returned (.tuple #[.slice A1 bn c1, .slice A2 bn c2]) ∧ RcL w' w'.heap.size (.slice A2 bn c2) rb ∧ Below u.heap.size u w') := Lib.hid fun u => by
        have := bands_any (p0, p1, p2, p3) LV r u ⟨by simp only; omega, by simp only; omega, by simp only; omega, by simp only; omega⟩ (by omega)
        unfold rA at this
        simp only at this
        rw [hkb, hrb, hbl.2.2, hbn] at this
        refine this.mono ?_
        rintro e w' ⟨A1, c1, A2, c2, he, _, hr, hb⟩
        exact ⟨A1, c1, A2, c2, he, hr, hb⟩
      obtain ⟨CWI, hCW⟩ : ∃ c, (pcF (z0, z1, z2, z3) ((2 ^ PR : Nat) : Int)).1 = c := ⟨_, rfl⟩
      obtain ⟨RHI, hRH⟩ : ∃ c, (pcF (z0, z1, z2, z3) ((2 ^ PR : Nat) : Int)).2 = c := ⟨_, rfl⟩
      have hpb := pc_bd (z := (z0, z1, z2, z3)) (m := 25) ((2 ^ PR : Nat) : Int) (pow16 _ (by omega)).1 (by omega) hzk.1 hzk.2
      rw [hCW, hRH] at hpb
      have hzz := hzk
      unfold RcOk inN at hzz
      simp only at hzz
      have PC1 : Hid (∀ u, Calls Try.prog 26 #[.agg #[.int .i64 z0, .int .i64 z1, .int .i64 z2, .int .i64 z3], .int .i64 (PR : Int)] u fun e w' => e = .returned (.tuple #[.int .i64 CWI, .int .i64 RHI]) ∧ Below u.heap.size u w') := Lib.hid fun u => by
        have := prec_any (z0, z1, z2, z3) PR u ⟨by simp only; omega, by simp only; omega, by simp only; omega, by simp only; omega⟩ (by omega)
        unfold rA at this
        simp only at this
        rw [hCW, hRH] at this
        exact this
      have HZK := Lib.hid hzk
      have HPCF : Hid ((pcF (z0, z1, z2, z3) ((2 ^ PR : Nat) : Int)).1 = CWI ∧ (pcF (z0, z1, z2, z3) ((2 ^ PR : Nat) : Int)).2 = RHI) := Lib.hid ⟨hCW, hRH⟩
      have HRB := Lib.hid hrb
      have HZE : Hid (ceilF p0 ((2 ^ (LV - r) : Nat) : Int) = z0 ∧ ceilF p1 ((2 ^ (LV - r) : Nat) : Int) = z1 ∧ ceilF p2 ((2 ^ (LV - r) : Nat) : Int) = z2 ∧ ceilF p3 ((2 ^ (LV - r) : Nat) : Int) = z3) := Lib.hid ⟨hz0, hz1, hz2, hz3⟩
      have HBO : Hid (rb.length = bn ∧ ∀ b ∈ rb, RcOk 25 b) := Lib.hid ⟨hbn, hbok⟩
      have hbn3 : 1 ≤ bn ∧ bn ≤ 3 := by omega
      clear hqq hz0 hz1 hz2 hz3 hzk hkb hrb hbok hbl hbn hCW hRH hzz
      have j2' : wa.cell? ⟨pb, 2, none⟩ = some (.int .i64 (LV : Int)) := blk_cell ((HBc.out.block (pb) (by have := HM1.out.1; omega)).trans HM1.out.2.2.1) 2
      obtain ⟨x0, x1, x2, x3⟩ := rc_cells ((HBc.out.block _ HM1.out.2.2.2.1).trans HM1.out.2.2.2.2)
      go_wp2_with fail
      refine (RS1.out _).mono ?_
      rintro e w8 ⟨rfl, hb⟩
      have HB8 := Lib.hid (HBc.out.trans (hb.mono HBc.out.size))
      clear hb x0 x1 x2 x3 j2' RS1
      go_upto_region 20 with fail
      obtain ⟨q10, hq10⟩ : ∃ q, w8.heap.size = q := ⟨_, rfl⟩
      obtain ⟨Wq, hWq⟩ : ∃ Wq, w8.alloc (Obj.cells #[.int .i64 z0, .int .i64 z1, .int .i64 z2, .int .i64 z3] 48) = Wq := ⟨_, rfl⟩
      have FQ : Hid (q8 < Wq.heap.size ∧ q10 < Wq.heap.size ∧ pb < Wq.heap.size ∧ Wq.heap[q8]? = some (.cells #[.int .i64 p0, .int .i64 p1, .int .i64 p2, .int .i64 p3] 48 (0, 0)) ∧ Wq.heap[q10]? = some (.cells #[.int .i64 z0, .int .i64 z1, .int .i64 z2, .int .i64 z3] 48 (0, 0)) ∧ Wq.heap[pb]? = some (.cells #[.int .i64 TX, .int .i64 TY, .int .i64 (LV : Int), .int .i64 (BW : Int), .int .i64 (BH : Int), .int .i64 (PR : Int), .int .i64 ST, .int .i64 OD, .int .i64 (LY : Int), .bool RC, .bool SO, .bool EP] 26 (0, 0)) ∧ Below W1.heap.size W1 Wq) := Lib.hid (by
        have hbe : Below W1.heap.size W1 Wq := by rw [← hWq]; exact HB8.out.alloc HB8.out.size _
        have h1 := hbe.size
        have h2 := HM1.out.1
        have h3 := HM1.out.2.2.2.1
        refine ⟨by omega, ?_, by omega, (hbe.block _ h3).trans HM1.out.2.2.2.2, ?_, (hbe.block _ (by omega)).trans HM1.out.2.2.1, hbe⟩
        · rw [← hWq, ← hq10]; simp
        · rw [← hWq, ← hq10]; exact World.alloc_heap_new w8 _)
      rw [hWq, hq10]
      clear hWq hq10 HB8
      obtain ⟨x0, x1, x2, x3⟩ := rc_cells FQ.out.2.2.2.1
      have j2' : Wq.cell? ⟨pb, 2, none⟩ = some (.int .i64 (LV : Int)) := blk_cell FQ.out.2.2.2.2.2.1 2
      have j5' : Wq.cell? ⟨pb, 5, none⟩ = some (.int .i64 (PR : Int)) := blk_cell FQ.out.2.2.2.2.2.1 5
      go_wp2_with fail
      refine (BD1.out _).mono ?_
      rintro e w9 ⟨LA, LC, MA, MC, rfl, hR1, HBd⟩
      have HB9 := Lib.hid HBd
      have HR1 := Lib.hid hR1
      clear HBd hR1 BD1 x0 x1 x2 x3 j2' j5'
      obtain ⟨v0, v1, v2, v3⟩ := rc_cells ((HB9.out.block _ FQ.out.2.1).trans FQ.out.2.2.2.2.1)
      have j2' : w9.cell? ⟨pb, 2, none⟩ = some (.int .i64 (LV : Int)) := blk_cell ((HB9.out.block _ FQ.out.2.2.1).trans FQ.out.2.2.2.2.2.1) 2
      have j5' : w9.cell? ⟨pb, 5, none⟩ = some (.int .i64 (PR : Int)) := blk_cell ((HB9.out.block _ FQ.out.2.2.1).trans FQ.out.2.2.2.2.2.1) 5
      go_wp2_with fail
      refine (PC1.out _).mono ?_
      rintro e Wr ⟨rfl, hb⟩
      have HBr := Lib.hid (HB9.out.trans (hb.mono HB9.out.size))
      have HR1d := Lib.hid (HR1.out.below hb hb.size)
      clear hb HB9 HR1 PC1 v0 v1 v2 v3 j2' j5'
      have FR : Hid (q8 < Wr.heap.size ∧ q10 < Wr.heap.size ∧ pb < Wr.heap.size ∧ Wr.heap[q8]? = some (.cells #[.int .i64 p0, .int .i64 p1, .int .i64 p2, .int .i64 p3] 48 (0, 0)) ∧ Wr.heap[q10]? = some (.cells #[.int .i64 z0, .int .i64 z1, .int .i64 z2, .int .i64 z3] 48 (0, 0)) ∧ Wr.heap[pb]? = some (.cells #[.int .i64 TX, .int .i64 TY, .int .i64 (LV : Int), .int .i64 (BW : Int), .int .i64 (BH : Int), .int .i64 (PR : Int), .int .i64 ST, .int .i64 OD, .int .i64 (LY : Int), .bool RC, .bool SO, .bool EP] 26 (0, 0)) ∧ Below W1.heap.size W1 Wr) := Lib.hid (by
        obtain ⟨h1, h2, h3, h4, h5, h6, h7⟩ := FQ.out
        have hs := HBr.out.size
        exact ⟨by omega, by omega, by omega, (HBr.out.block _ h1).trans h4, (HBr.out.block _ h2).trans h5, (HBr.out.block _ h3).trans h6, h7.trans (HBr.out.mono h7.size)⟩)
      clear FQ HBr
      have hTm : 0 ≤ CWI * RHI ∧ CWI * RHI ≤ 25 * 25 := ⟨Int.mul_nonneg (by omega) (by omega), Int.mul_le_mul (by omega) (by omega) (by omega) (by omega)⟩
      obtain ⟨TN, hTN⟩ : ∃ T : Nat, CWI * RHI = (T : Int) := ⟨(CWI * RHI).toNat, by omega⟩
      obtain ⟨T, hT⟩ : ∃ T : Int, (TN : Int) = T := ⟨_, rfl⟩
      rw [hTN, hT] at hTm
      have hTN6 : TN ≤ 625 := by omega
      have HTW : Hid (wrap64 T = T ∧ CWI * RHI = T ∧ (TN : Int) = T) := Lib.hid ⟨w64_in (by omega), by rw [hTN, hT], hT⟩
      clear hTN hT
      have HRR : Hid (RcL Wr Wr.heap.size (.slice MA bn MC) rb ∧ rb.length = bn ∧ ∀ b ∈ rb, RcOk 25 b ∧ BandOk b (z0, z1, z2, z3) PR r) := Lib.hid ⟨HR1d.out, HBO.out.1, fun b hb => ⟨HBO.out.2 b hb, by
        rw [← HRB.out] at hb
        have h := bands_over (p0, p1, p2, p3) LV r PR hj hpr.1 b hb
        unfold overN at h
        dsimp only at h
        rw [HZE.out.1, HZE.out.2.1, HZE.out.2.2.1, HZE.out.2.2.2] at h
        exact h⟩⟩
      have HPP : Hid (pb < Wr.heap.size ∧ Wr.heap[pb]? = some (.cells #[.int .i64 TX, .int .i64 TY, .int .i64 (LV : Int), .int .i64 (BW : Int), .int .i64 (BH : Int), .int .i64 (PR : Int), .int .i64 ST, .int .i64 OD, .int .i64 (LY : Int), .bool RC, .bool SO, .bool EP] 26 (0, 0)) ∧ q10 < Wr.heap.size ∧ Wr.heap[q10]? = some (.cells #[.int .i64 z0, .int .i64 z1, .int .i64 z2, .int .i64 z3] 48 (0, 0))) := Lib.hid ⟨FR.out.2.2.1, FR.out.2.2.2.2.2.1, FR.out.2.1, FR.out.2.2.2.2.1⟩
      have HZZ : Hid (RcOk 25 (z0, z1, z2, z3) ∧ (pcF (z0, z1, z2, z3) ((2 ^ PR : Nat) : Int)).1 = CWI ∧ (pcF (z0, z1, z2, z3) ((2 ^ PR : Nat) : Int)).2 = RHI) := Lib.hid ⟨HZK.out, HPCF.out⟩
      have hsb := sumA_bd rb (fun b hb => HBO.out.2 b hb)
      rw [HBO.out.1] at hsb
      have hbl2 : Hid (Below W1.heap.size W1 Wr) := Lib.hid FR.out.2.2.2.2.2.2
      have HSU : Hid (al + sumA rb = bSum (p0, p1, p2, p3) LV (r + 1)) := Lib.hid (by rw [bSum, HRB.out, HAL.out])
      clear FR HR1d HZK HPCF HRB HZE HBO hTm
      go_upto_block 4 with fail
      refine wp_code (c' := blkOf Try.f5 4) (by kernel_rfl) (cvE bn MC pb q10 r TN MA TX TY ST OD LV BW BH PR LY RC SO EP z0 z1 z2 z3 CWI RHI T al rb Wr HRR HPP HZZ HTW hTN6 (by omega) (by omega) (by omega) hpr hbw (by omega) ?_)
      intro v2 v17 v18 v19 v20 v21 v22 v23 v24 v25 v146 v147 v148 v149 v150 v151 v152 v153 v154 v155 v156 v157 v158 v159 v160 v161 v162 v163 v164 v165 v166 v167 v168 v169 v170 v171 v172 v173 v174 v175 v176 v177 v178 v179 v180 v181 v182 v183 v184 v185 v186 v187 v188 v189 v190 v191 v192 v193 v194 v195 v196 v197 v198 v199 v200 v201 v202 v203 v204 v205 v206 v207 v208 v209 v210 v211 v212 v213 v214 v215 v216 v217 v218 v219 v220 v221 v222 v223 v224 v225 v226 v227 v228 v229 v230 v231 v232 v233 v234 v235 v236 v237 v238 v239 v240 v241 v242 v243 v244 v245 v246 v247 v248 v249 v250 v251 v252 v253 v254 v255 v256 v257 v258 v259 v260 v261 v262 v263 v264 v265 v266 v267 v268 v269 v270 v271 v272 v273 v274 v275 v276 v277 v278 v279 v280 v281 v282 v283 v284 v285 v286 v287 v288 v289 v290 v291 v292 v293 W' H2
      have HBN : Hid (Below W1.heap.size W1 W') := Lib.hid (hbl2.out.trans (H2.out.mono hbl2.out.size))
      have hal3 : 0 ≤ al + sumA rb ∧ al + sumA rb ≤ 1875 * ((r + 1 : Nat) : Int) := by omega
      obtain ⟨al2, hal2⟩ : ∃ a, al + sumA rb = a := ⟨_, rfl⟩
      rw [hal2] at HSU hal3 ⊢
      clear H2 HRR HPP HZZ HTW hbl2 hsb hal2
      go_wp2
      go_roundg g1
      case measure => omega
      case rel => exact ⟨r + 1, al2, by omega, rfl, by go_num, hal3, Lib.hid ⟨HSU.out, HBN.out⟩⟩
    · obtain rfl : r = LV + 1 := by omega
      have hlc : ¬ (((LV + 1 : Nat) : Int) ≤ (LV : Int)) := by omega
      obtain ⟨rI, hrI⟩ : ∃ x : Int, ((LV + 1 : Nat) : Int) = x := ⟨_, rfl⟩
      have HRI := Lib.hid hrI
      rw [hrI] at hlc ⊢
      clear hrI
      have HA2 : Hid (al = areaR (p0, p1, p2, p3)) := Lib.hid (by rw [HAL.out, bSum_all])
      have j2' : wa.cell? ⟨pb, 2, none⟩ = some (.int .i64 (LV : Int)) := blk_cell ((HBc.out.block pb (by have := HM1.out.1; omega)).trans HM1.out.2.2.1) 2
      go_wp2_with fail
      rw [HA2.out, ← HRI.out]
      exact HQQ.out _ _ _ _ _ _ _ _ _ _ _ _ _ _ _ _ _ _ _ _ _ _ _ _ _ _ _ _ _ _ _ _ _ _ _ _ _ _ _ _ _ _ _ _ _ _ _ _ _ _ _ _ _ _ _ _ _ _ _ _ _ _ _ _ _ _ _ _ _ _ _ _ _ _ _ _ _ _ _ _ _ _ _ _ _ _ _ _ _ _ _ _ _ _ _ _ _ _ _ _ _ _ _ _ _ _ _ _ _ _ _ _ _ _ _ _ _ _ _ _ _ _ _ _ _ _ _ _ _ _ _ _ _ _ _ _ _ _ _ _ _ _ _ _ _ _ _ _ _ _ _ _ _ _ _ _ _ _ _ _ _ _ _ _ _ _ _ _ _ _ _ _ _ _ _ _ _ _ _ _ _ _ _ _ _ _ _ _ _ _ wa HBc
end Go.Proofs.Ythcpmonahmogaaa
