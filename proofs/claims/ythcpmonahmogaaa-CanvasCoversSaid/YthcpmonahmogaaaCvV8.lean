/- canvas: the tiles are gone through. -/
import Derived.Test.YthcpmonahmogaaaCvV7
import Derived.Laws.Rows
import Derived.Deep.QuietTactic
import Derived.BigQuiet
import Derived.Deep.CutRange
import Derived.Deep.CutBlock
import Derived.Deep.LoopGhost
set_option linter.unusedVariables false
set_option linter.unusedSimpArgs false
namespace Go.Proofs.Ythcpmonahmogaaa
open Go.RowKit
set_option maxRecDepth 100000
set_option maxHeartbeats 16000000 in
theorem cvT {u0 u1 u2 u4 u8 u9 u10 u11 u12 u13 u14 u15 u16 u17 u18 u19 u20 u21 u22 u23 u24 u25 u26 u27 u28 u29 u30 u31 u32 u33 u34 u35 u36 u37 u38 u39 u40 u41 u42 u43 u44 u45 u46 u47 u48 u49 u50 u51 u52 u53 u54 u55 u56 u57 u58 u59 u60 u61 u62 u63 u64 u65 u66 u67 u68 u69 u70 u71 u72 u73 u74 u75 u76 u77 u78 u79 u80 u81 u82 u83 u84 u85 u86 u87 u88 u89 u90 u91 u92 u93 u94 u95 u96 u97 u98 u99 u100 u101 u102 u103 u104 u105 u106 u107 u108 u109 u110 u111 u112 u113 u114 u115 u116 u117 u118 u119 u120 u121 u122 u123 u124 u125 u126 u127 u128 u129 u130 u131 u132 u133 u134 u135 u136 u137 u138 u139 u140 u141 u142 u143 u144 u145 u146 u147 u148 u149 u150 u151 u152 u153 u154 u155 u156 u157 u158 u159 u160 u161 u162 u163 u164 u165 u166 u167 u168 u169 u170 u171 u172 u173 u174 u175 u176 u177 u178 u179 u180 u181 u182 u183 u184 u185 u186 u187 u188 u189 u190 u191 u192 u193 u194 u195 u196 u197 u198 u199 u200 u201 u202 u203 u204 u205 u206 u207 u208 u209 u210 u211 u212 u213 u214 u215 u216 u217 u218 u219 u220 u221 u222 u223 u224 u225 u226 u227 u228 u229 u230 u231 u232 u233 u234 u235 u236 u237 u238 u239 u240 u241 u242 u243 u244 u245 u246 u247 u248 u249 u250 u251 u252 u253 u254 u255 u256 u257 u258 u259 u260 u261 u262 u263 u264 u265 u266 u267 u268 u269 u270 u271 u272 u273 u274 u275 u276 u277 u278 u279 u280 u281 u282 u283 u284 u285 u286 u287 u288 u289 u290 u291 u292 u293 u294 u295 u296 u297 : Value} (bm tn TC : Nat) (TA : Option Addr) (V4 : Value) (X Y OX OY : Int) (rs : List Rc4) (W : World)
    (HR : Hid (RcL W W.heap.size (.slice TA tn TC) rs)) (HRS : Hid (rs.length = tn ∧ (∀ r ∈ rs, RcOk 25 r ∧ (OX ≤ r.1 ∧ r.1 < r.2.2.1 ∧ r.2.2.1 ≤ X) ∧ (OY ≤ r.2.1 ∧ r.2.1 < r.2.2.2 ∧ r.2.2.2 ≤ Y)))) (HBM : Hid (bm < W.heap.size ∧ W.heap[bm]? = some (.cells #[.int .i64 X, .int .i64 Y, .int .i64 OX, .int .i64 OY, V4] 24 (0, 0)))) (htn : tn ≤ 6) {Q : Exit → Act → World → Prop}
    (hQ : ∀ (v2 v36 v37 v38 v39 v40 v41 v42 v43 v44 v45 v46 v47 v48 v49 v50 v51 v52 v53 v54 v55 v56 v57 v58 v59 v60 v61 v62 v63 v64 v65 v66 v67 v68 v69 v70 v71 v72 v73 v74 v75 v76 v77 v78 v79 v80 v81 v82 v83 v84 v85 v86 v87 v88 v89 v90 v91 v92 : Value) (W' : World), Hid (Below W.heap.size W W') → Q .normal ⟨#[u0, u1, v2, .pointer (some ⟨bm, 0, none⟩), u4, .slice TA tn TC, (.int .i64 (sumA rs)), .int .i64 (tn : Int), u8, u9, u10, u11, u12, u13, u14, u15, u16, u17, u18, u19, u20, u21, u22, u23, u24, u25, u26, u27, u28, u29, u30, u31, u32, u33, u34, u35, v36, v37, v38, v39, v40, v41, v42, v43, v44, v45, v46, v47, v48, v49, v50, v51, v52, v53, v54, v55, v56, v57, v58, v59, v60, v61, v62, v63, v64, v65, v66, v67, v68, v69, v70, v71, v72, v73, v74, v75, v76, v77, v78, v79, v80, v81, v82, v83, v84, v85, v86, v87, v88, v89, v90, v91, v92, u93, u94, u95, u96, u97, u98, u99, u100, u101, u102, u103, u104, u105, u106, u107, u108, u109, u110, u111, u112, u113, u114, u115, u116, u117, u118, u119, u120, u121, u122, u123, u124, u125, u126, u127, u128, u129, u130, u131, u132, u133, u134, u135, u136, u137, u138, u139, u140, u141, u142, u143, u144, u145, u146, u147, u148, u149, u150, u151, u152, u153, u154, u155, u156, u157, u158, u159, u160, u161, u162, u163, u164, u165, u166, u167, u168, u169, u170, u171, u172, u173, u174, u175, u176, u177, u178, u179, u180, u181, u182, u183, u184, u185, u186, u187, u188, u189, u190, u191, u192, u193, u194, u195, u196, u197, u198, u199, u200, u201, u202, u203, u204, u205, u206, u207, u208, u209, u210, u211, u212, u213, u214, u215, u216, u217, u218, u219, u220, u221, u222, u223, u224, u225, u226, u227, u228, u229, u230, u231, u232, u233, u234, u235, u236, u237, u238, u239, u240, u241, u242, u243, u244, u245, u246, u247, u248, u249, u250, u251, u252, u253, u254, u255, u256, u257, u258, u259, u260, u261, u262, u263, u264, u265, u266, u267, u268, u269, u270, u271, u272, u273, u274, u275, u276, u277, u278, u279, u280, u281, u282, u283, u284, u285, u286, u287, u288, u289, u290, u291, u292, u293, u294, u295, u296, u297], []⟩ W') :
    (blkOf Try.f5 0).wp Try.prog Q ⟨#[u0, u1, u2, .pointer (some ⟨bm, 0, none⟩), u4, .slice TA tn TC, .int .i64 0, .int .i64 0, u8, u9, u10, u11, u12, u13, u14, u15, u16, u17, u18, u19, u20, u21, u22, u23, u24, u25, u26, u27, u28, u29, u30, u31, u32, u33, u34, u35, u36, u37, u38, u39, u40, u41, u42, u43, u44, u45, u46, u47, u48, u49, u50, u51, u52, u53, u54, u55, u56, u57, u58, u59, u60, u61, u62, u63, u64, u65, u66, u67, u68, u69, u70, u71, u72, u73, u74, u75, u76, u77, u78, u79, u80, u81, u82, u83, u84, u85, u86, u87, u88, u89, u90, u91, u92, u93, u94, u95, u96, u97, u98, u99, u100, u101, u102, u103, u104, u105, u106, u107, u108, u109, u110, u111, u112, u113, u114, u115, u116, u117, u118, u119, u120, u121, u122, u123, u124, u125, u126, u127, u128, u129, u130, u131, u132, u133, u134, u135, u136, u137, u138, u139, u140, u141, u142, u143, u144, u145, u146, u147, u148, u149, u150, u151, u152, u153, u154, u155, u156, u157, u158, u159, u160, u161, u162, u163, u164, u165, u166, u167, u168, u169, u170, u171, u172, u173, u174, u175, u176, u177, u178, u179, u180, u181, u182, u183, u184, u185, u186, u187, u188, u189, u190, u191, u192, u193, u194, u195, u196, u197, u198, u199, u200, u201, u202, u203, u204, u205, u206, u207, u208, u209, u210, u211, u212, u213, u214, u215, u216, u217, u218, u219, u220, u221, u222, u223, u224, u225, u226, u227, u228, u229, u230, u231, u232, u233, u234, u235, u236, u237, u238, u239, u240, u241, u242, u243, u244, u245, u246, u247, u248, u249, u250, u251, u252, u253, u254, u255, u256, u257, u258, u259, u260, u261, u262, u263, u264, u265, u266, u267, u268, u269, u270, u271, u272, u273, u274, u275, u276, u277, u278, u279, u280, u281, u282, u283, u284, u285, u286, u287, u288, u289, u290, u291, u292, u293, u294, u295, u296, u297], []⟩ W := by
  obtain ⟨o_, ho_⟩ : ∃ o, blkOf Try.f5 0 = o := ⟨_, rfl⟩
  rw [ho_]
  conv at ho_ => lhs; whnf
  subst ho_
  have HQ := Lib.hid hQ
  clear hQ
  go_wp2_with fail
  go_loopg [6, 7] tn (fun g a v wr => ∃ (i : Nat) (al : Int), i + g = tn ∧ a = .int .i64 al ∧ v = .int .i64 (i : Int) ∧ (0 ≤ al ∧ al ≤ 625 * (i : Int)) ∧ Hid (al = sumA (rs.take i) ∧ Below W.heap.size W wr))
  case atStart => exact ⟨0, 0, by omega, rfl, rfl, by omega, Lib.hid ⟨by simp [sumA], Below.refl _ _⟩⟩
  case round =>
    obtain ⟨i, al, hig, rfl, rfl, hal, HI⟩ := hrel
    obtain ⟨wa, hwa⟩ : ∃ wa, wa = wr := ⟨wr, rfl⟩
    subst hwa
    by_cases hj : i < tn
    · obtain ⟨g1, rfl⟩ : ∃ g1, gk = g1 + 1 := ⟨gk - 1, by omega⟩
      have hiI : (i : Int) < (tn : Int) ∧ (0 : Int) ≤ (i : Int) := by omega
      have hil : i < rs.length := by rw [HRS.out.1]; exact hj
      obtain ⟨⟨t0, t1, t2, t3⟩, hr⟩ : ∃ r, rs[i] = r := ⟨_, rfl⟩
      have hrk := HRS.out.2 (t0, t1, t2, t3) (by rw [← hr]; exact List.getElem_mem hil)
      have hr2 : rs[i]? = some (t0, t1, t2, t3) := by rw [List.getElem?_eq_getElem hil, hr]
      obtain ⟨TA', TC', hTA, hTcell⟩ := HR.out
      injection hTA with hTA1 hTA2 hTA3
      subst hTA1 hTA3
      obtain ⟨tg, tq, rfl, htg, x0, x1, x2, x3⟩ := hTcell i _ hr2
      simp only at x0 x1 x2 x3
      have HTC : Hid (tg < W.heap.size ∧ W.cell? ⟨tg, tq + i * 4, none⟩ = some (.int .i64 t0) ∧ W.cell? ⟨tg, tq + i * 4 + 1, none⟩ = some (.int .i64 t1) ∧ W.cell? ⟨tg, tq + i * 4 + 2, none⟩ = some (.int .i64 t2) ∧ W.cell? ⟨tg, tq + i * 4 + 3, none⟩ = some (.int .i64 t3)) := Lib.hid ⟨htg, x0, x1, x2, x3⟩
      obtain ⟨⟨⟨⟨a1, a2⟩, ⟨a3, a4⟩, ⟨a5, a6⟩, a7, a8⟩, b1, b2⟩, ⟨d1, d2, d3⟩, d4, d5, d6⟩ := hrk
      simp only at a1 a2 a3 a4 a5 a6 a7 a8 b1 b2 d1 d2 d3 d4 d5 d6
      have n1 : ¬ t2 ≤ t0 := by omega
      have n2 : ¬ t3 ≤ t1 := by omega
      have n3 : ¬ t0 < OX := by omega
      have n4 : ¬ Y < t3 := by omega
      obtain ⟨ar, har⟩ : ∃ a, (t2 - t0) * (t3 - t1) = a := ⟨_, rfl⟩
      have harb : 0 ≤ ar ∧ ar ≤ 625 := by
        rw [← har]
        refine ⟨Int.mul_nonneg (by omega) (by omega), ?_⟩
        have : (t2 - t0) * (t3 - t1) ≤ 25 * 25 := Int.mul_le_mul (by omega) (by omega) (by omega) (by omega)
        omega
      have AR : Hid (∀ u, Calls Try.prog 32 #[.agg #[.int .i64 t0, .int .i64 t1, .int .i64 t2, .int .i64 t3]] u fun e w' => e = .returned (.int .i64 ar) ∧ Below u.heap.size u w') := Lib.hid fun u => by
        have := rarea_any t0 t1 t2 t3 u (by omega) (by omega)
        rw [har] at this
        exact this
      have HSU : Hid (al + ar = sumA (rs.take (i + 1))) := Lib.hid (by
        rw [sumA_take rs i _ hr2, HI.out.1]
        unfold areaR
        dsimp only
        rw [har])
      have HBI := Lib.hid HI.out.2
      have hal3 : 0 ≤ al + ar ∧ al + ar ≤ 625 * ((i + 1 : Nat) : Int) := by omega
      clear hil hr hr2 hTA2 hTcell htg x0 x1 x2 x3 har HI
      go_upto_region 9 with fail
      go_cut [85] from 42 to 84 (fun v wx => v = .bool false ∧ Hid (Below W.heap.size W wx))
      case first =>
        obtain ⟨VL, hVL⟩ : ∃ VL : Unit → List (Nat × Nat × Value), VL = fun z => [(0, 42, .slice (some ⟨tg, tq, none⟩) tn TC), (1, 43, .int .i64 (i : Int)), (2, 44, .pointer (some ⟨tg, tq + i * 4, none⟩)), (3, 45, .pointer (some ⟨tg, tq + i * 4, none⟩)), (4, 46, .int .i64 t0), (5, 47, .slice (some ⟨tg, tq, none⟩) tn TC), (6, 48, .int .i64 (i : Int)), (7, 49, .pointer (some ⟨tg, tq + i * 4, none⟩)), (8, 50, .pointer (some ⟨tg, tq + i * 4 + 2, none⟩)), (9, 51, .int .i64 t2), (10, 52, .bool false), (11, 53, .bool false), (12, 54, .slice (some ⟨tg, tq, none⟩) tn TC), (13, 55, .int .i64 (i : Int)), (14, 56, .pointer (some ⟨tg, tq + i * 4, none⟩)), (15, 57, .pointer (some ⟨tg, tq + i * 4 + 1, none⟩)), (16, 58, .int .i64 t1), (17, 59, .slice (some ⟨tg, tq, none⟩) tn TC), (18, 60, .int .i64 (i : Int)), (19, 61, .pointer (some ⟨tg, tq + i * 4, none⟩)), (20, 62, .pointer (some ⟨tg, tq + i * 4 + 3, none⟩)), (21, 63, .int .i64 t3), (22, 64, .bool false), (23, 65, .bool false), (24, 66, .bool false), (25, 67, .slice (some ⟨tg, tq, none⟩) tn TC), (26, 68, .int .i64 (i : Int)), (27, 69, .pointer (some ⟨tg, tq + i * 4, none⟩)), (28, 70, .pointer (some ⟨tg, tq + i * 4, none⟩)), (29, 71, .int .i64 t0), (30, 72, .pointer (some ⟨bm, 2, none⟩)), (31, 73, .int .i64 OX), (32, 74, .bool false), (33, 75, .bool false), (34, 76, .bool false), (35, 77, .slice (some ⟨tg, tq, none⟩) tn TC), (36, 78, .int .i64 (i : Int)), (37, 79, .pointer (some ⟨tg, tq + i * 4, none⟩)), (38, 80, .pointer (some ⟨tg, tq + i * 4 + 3, none⟩)), (39, 81, .int .i64 t3), (40, 82, .pointer (some ⟨bm, 1, none⟩)), (41, 83, .int .i64 Y), (42, 84, .bool false), (43, 85, .bool false)] := ⟨_, rfl⟩
        have hok : ∀ z, manyOk 298 (VL z) := fun z => by rw [hVL]; exact okB_ok rfl
        have HVL := Lib.hid hVL
        have hvi : ∀ z, ∀ x ∈ VL z, x.1 < 44 := fun z => by rw [hVL]; exact ltB_ok rfl
        have HOK := Lib.hid hok
        have HVI := Lib.hid hvi
        clear hVL hok hvi
        refine (wpIn_wide (n := 9)).1 (regionIn_many (N := 298) (w := _) VL (fun L z w' => Below W.heap.size W w') [(3, .pointer (some ⟨bm, 0, none⟩)), (5, .slice (some ⟨tg, tq, none⟩) tn TC), (7, .int .i64 (i : Int))] (by kernel_rfl) (by kernel_rfl) rfl (by simp only [List.forall_mem_cons, List.not_mem_nil, false_imp_iff, implies_true, and_true]; exact ⟨rfl, rfl, rfl⟩) HVI.out () ?start ?step ?fin)
        case start => exact HBI.out.drew
        case step =>
          intro gg_ hgN hgF ii_ hii_ L z w' hph hs hu
          have hF3 := hgF (3, .pointer (some ⟨bm, 0, none⟩)) (by simp)
          have hF5 := hgF (5, .slice (some ⟨tg, tq, none⟩) tn TC) (by simp)
          have hF7 := hgF (7, .int .i64 (i : Int)) (by simp)
          have hL := hu.1
          have hii_ : ii_ < 44 := hii_
          clear hgF
          obtain rfl | rfl | rfl | rfl | rfl | rfl | rfl | rfl | rfl | rfl | rfl | rfl | rfl | rfl | rfl | rfl | rfl | rfl | rfl | rfl | rfl | rfl | rfl | rfl | rfl | rfl | rfl | rfl | rfl | rfl | rfl | rfl | rfl | rfl | rfl | rfl | rfl | rfl | rfl | rfl | rfl | rfl | rfl | rfl := (by omega : ii_ = 0 ∨ ii_ = 1 ∨ ii_ = 2 ∨ ii_ = 3 ∨ ii_ = 4 ∨ ii_ = 5 ∨ ii_ = 6 ∨ ii_ = 7 ∨ ii_ = 8 ∨ ii_ = 9 ∨ ii_ = 10 ∨ ii_ = 11 ∨ ii_ = 12 ∨ ii_ = 13 ∨ ii_ = 14 ∨ ii_ = 15 ∨ ii_ = 16 ∨ ii_ = 17 ∨ ii_ = 18 ∨ ii_ = 19 ∨ ii_ = 20 ∨ ii_ = 21 ∨ ii_ = 22 ∨ ii_ = 23 ∨ ii_ = 24 ∨ ii_ = 25 ∨ ii_ = 26 ∨ ii_ = 27 ∨ ii_ = 28 ∨ ii_ = 29 ∨ ii_ = 30 ∨ ii_ = 31 ∨ ii_ = 32 ∨ ii_ = 33 ∨ ii_ = 34 ∨ ii_ = 35 ∨ ii_ = 36 ∨ ii_ = 37 ∨ ii_ = 38 ∨ ii_ = 39 ∨ ii_ = 40 ∨ ii_ = 41 ∨ ii_ = 42 ∨ ii_ = 43)
          · skip
            have e5 : (many gg_ L (VL z))[5]?.getD undef = .slice (some ⟨tg, tq, none⟩) tn TC := many_out3 hgN (HOK.out z) (by rw [HVL.out]; rfl) hF5
            refine opIn_run (v := .slice (some ⟨tg, tq, none⟩) tn TC) (w' := w') rfl rfl (fun c h => by cases h) (fun _ => trivial) ?_ ⟨z, by exact many_put3 (HOK.out _) (by rw [HVL.out]; rfl) hL, hph⟩
            go_simp
          · skip
            have e7 : (many gg_ L (VL z))[7]?.getD undef = .int .i64 (i : Int) := many_out3 hgN (HOK.out z) (by rw [HVL.out]; rfl) hF7
            refine opIn_run (v := .int .i64 (i : Int)) (w' := w') rfl rfl (fun c h => by cases h) (fun _ => trivial) ?_ ⟨z, by exact many_put3 (HOK.out _) (by rw [HVL.out]; rfl) hL, hph⟩
            go_simp
          · skip
            have y0 : L 0 = true := up_at hu 0 (by kernel_rfl)
            have y1 : L 1 = true := up_at hu 1 (by kernel_rfl)
            have e42 : (many gg_ L (VL z))[42]?.getD undef = .slice (some ⟨tg, tq, none⟩) tn TC := many_eval3 hgN (HOK.out z) (by rw [HVL.out]; rfl) y0
            have e43 : (many gg_ L (VL z))[43]?.getD undef = .int .i64 (i : Int) := many_eval3 hgN (HOK.out z) (by rw [HVL.out]; rfl) y1
            refine opIn_run (v := .pointer (some ⟨tg, tq + i * 4, none⟩)) (w' := w') rfl rfl (fun c h => by cases h) (fun _ => trivial) ?_ ⟨z, by exact many_put3 (HOK.out _) (by rw [HVL.out]; rfl) hL, hph⟩
            go_simp
          · skip
            have y2 : L 2 = true := up_at hu 2 (by kernel_rfl)
            have e44 : (many gg_ L (VL z))[44]?.getD undef = .pointer (some ⟨tg, tq + i * 4, none⟩) := many_eval3 hgN (HOK.out z) (by rw [HVL.out]; rfl) y2
            refine opIn_run (v := .pointer (some ⟨tg, tq + i * 4, none⟩)) (w' := w') rfl rfl (fun c h => by cases h) (fun _ => trivial) ?_ ⟨z, by exact many_put3 (HOK.out _) (by rw [HVL.out]; rfl) hL, hph⟩
            go_simp
          · skip
            have y3 : L 3 = true := up_at hu 3 (by kernel_rfl)
            have hcell : w'.cell? ⟨tg, tq + i * 4, none⟩ = some (.int .i64 t0) := (hph.cell (p := ⟨tg, tq + i * 4, none⟩) HTC.out.1).trans HTC.out.2.1
            have e45 : (many gg_ L (VL z))[45]?.getD undef = .pointer (some ⟨tg, tq + i * 4, none⟩) := many_eval3 hgN (HOK.out z) (by rw [HVL.out]; rfl) y3
            refine opIn_run (v := .int .i64 t0) (w' := w') rfl rfl (fun c h => by cases h) (fun _ => trivial) ?_ ⟨z, by exact many_put3 (HOK.out _) (by rw [HVL.out]; rfl) hL, hph⟩
            go_simp
          · skip
            have e5 : (many gg_ L (VL z))[5]?.getD undef = .slice (some ⟨tg, tq, none⟩) tn TC := many_out3 hgN (HOK.out z) (by rw [HVL.out]; rfl) hF5
            refine opIn_run (v := .slice (some ⟨tg, tq, none⟩) tn TC) (w' := w') rfl rfl (fun c h => by cases h) (fun _ => trivial) ?_ ⟨z, by exact many_put3 (HOK.out _) (by rw [HVL.out]; rfl) hL, hph⟩
            go_simp
          · skip
            have e7 : (many gg_ L (VL z))[7]?.getD undef = .int .i64 (i : Int) := many_out3 hgN (HOK.out z) (by rw [HVL.out]; rfl) hF7
            refine opIn_run (v := .int .i64 (i : Int)) (w' := w') rfl rfl (fun c h => by cases h) (fun _ => trivial) ?_ ⟨z, by exact many_put3 (HOK.out _) (by rw [HVL.out]; rfl) hL, hph⟩
            go_simp
          · skip
            have y5 : L 5 = true := up_at hu 5 (by kernel_rfl)
            have y6 : L 6 = true := up_at hu 6 (by kernel_rfl)
            have e47 : (many gg_ L (VL z))[47]?.getD undef = .slice (some ⟨tg, tq, none⟩) tn TC := many_eval3 hgN (HOK.out z) (by rw [HVL.out]; rfl) y5
            have e48 : (many gg_ L (VL z))[48]?.getD undef = .int .i64 (i : Int) := many_eval3 hgN (HOK.out z) (by rw [HVL.out]; rfl) y6
            refine opIn_run (v := .pointer (some ⟨tg, tq + i * 4, none⟩)) (w' := w') rfl rfl (fun c h => by cases h) (fun _ => trivial) ?_ ⟨z, by exact many_put3 (HOK.out _) (by rw [HVL.out]; rfl) hL, hph⟩
            go_simp
          · skip
            have y7 : L 7 = true := up_at hu 7 (by kernel_rfl)
            have e49 : (many gg_ L (VL z))[49]?.getD undef = .pointer (some ⟨tg, tq + i * 4, none⟩) := many_eval3 hgN (HOK.out z) (by rw [HVL.out]; rfl) y7
            refine opIn_run (v := .pointer (some ⟨tg, tq + i * 4 + 2, none⟩)) (w' := w') rfl rfl (fun c h => by cases h) (fun _ => trivial) ?_ ⟨z, by exact many_put3 (HOK.out _) (by rw [HVL.out]; rfl) hL, hph⟩
            go_simp
          · skip
            have y8 : L 8 = true := up_at hu 8 (by kernel_rfl)
            have hcell : w'.cell? ⟨tg, tq + i * 4 + 2, none⟩ = some (.int .i64 t2) := (hph.cell (p := ⟨tg, tq + i * 4 + 2, none⟩) HTC.out.1).trans HTC.out.2.2.2.1
            have e50 : (many gg_ L (VL z))[50]?.getD undef = .pointer (some ⟨tg, tq + i * 4 + 2, none⟩) := many_eval3 hgN (HOK.out z) (by rw [HVL.out]; rfl) y8
            refine opIn_run (v := .int .i64 t2) (w' := w') rfl rfl (fun c h => by cases h) (fun _ => trivial) ?_ ⟨z, by exact many_put3 (HOK.out _) (by rw [HVL.out]; rfl) hL, hph⟩
            go_simp
          · skip
            have y4 : L 4 = true := up_at hu 4 (by kernel_rfl)
            have y9 : L 9 = true := up_at hu 9 (by kernel_rfl)
            have e46 : (many gg_ L (VL z))[46]?.getD undef = .int .i64 t0 := many_eval3 hgN (HOK.out z) (by rw [HVL.out]; rfl) y4
            have e51 : (many gg_ L (VL z))[51]?.getD undef = .int .i64 t2 := many_eval3 hgN (HOK.out z) (by rw [HVL.out]; rfl) y9
            refine opIn_run (v := .bool false) (w' := w') rfl rfl (fun c h => by cases h) (fun _ => trivial) ?_ ⟨z, by exact many_put3 (HOK.out _) (by rw [HVL.out]; rfl) hL, hph⟩
            go_simp
          · skip
            have y10 : L 10 = true := up_at hu 10 (by kernel_rfl)
            have e52 : (many gg_ L (VL z))[52]?.getD undef = .bool false := many_eval3 hgN (HOK.out z) (by rw [HVL.out]; rfl) y10
            refine opIn_run (v := .bool false) (w' := w') rfl rfl (fun c h => by cases h) (fun _ => trivial) ?_ ⟨z, by exact many_put3 (HOK.out _) (by rw [HVL.out]; rfl) hL, hph⟩
            go_simp
          · skip
            have y11 : L 11 = true := up_at hu 11 (by kernel_rfl)
            have e5 : (many gg_ L (VL z))[5]?.getD undef = .slice (some ⟨tg, tq, none⟩) tn TC := many_out3 hgN (HOK.out z) (by rw [HVL.out]; rfl) hF5
            have e53 : (many gg_ L (VL z))[53]?.getD undef = .bool false := many_eval3 hgN (HOK.out z) (by rw [HVL.out]; rfl) y11
            refine opIn_run_g (v := .slice (some ⟨tg, tq, none⟩) tn TC) (w' := w') (j := 11) (b := false) rfl rfl (by simp [yielded, many_some hgN (show 53 < 298 by decide) e53]) (fun c h => by cases h) (fun _ => trivial) ?_ ⟨z, by exact many_put3 (HOK.out _) (by rw [HVL.out]; rfl) hL, hph⟩
            go_simp
          · skip
            have y11 : L 11 = true := up_at hu 11 (by kernel_rfl)
            have e7 : (many gg_ L (VL z))[7]?.getD undef = .int .i64 (i : Int) := many_out3 hgN (HOK.out z) (by rw [HVL.out]; rfl) hF7
            have e53 : (many gg_ L (VL z))[53]?.getD undef = .bool false := many_eval3 hgN (HOK.out z) (by rw [HVL.out]; rfl) y11
            refine opIn_run_g (v := .int .i64 (i : Int)) (w' := w') (j := 11) (b := false) rfl rfl (by simp [yielded, many_some hgN (show 53 < 298 by decide) e53]) (fun c h => by cases h) (fun _ => trivial) ?_ ⟨z, by exact many_put3 (HOK.out _) (by rw [HVL.out]; rfl) hL, hph⟩
            go_simp
          · skip
            have y11 : L 11 = true := up_at hu 11 (by kernel_rfl)
            have y12 : L 12 = true := up_at hu 12 (by kernel_rfl)
            have y13 : L 13 = true := up_at hu 13 (by kernel_rfl)
            have e53 : (many gg_ L (VL z))[53]?.getD undef = .bool false := many_eval3 hgN (HOK.out z) (by rw [HVL.out]; rfl) y11
            have e54 : (many gg_ L (VL z))[54]?.getD undef = .slice (some ⟨tg, tq, none⟩) tn TC := many_eval3 hgN (HOK.out z) (by rw [HVL.out]; rfl) y12
            have e55 : (many gg_ L (VL z))[55]?.getD undef = .int .i64 (i : Int) := many_eval3 hgN (HOK.out z) (by rw [HVL.out]; rfl) y13
            refine opIn_run_g (v := .pointer (some ⟨tg, tq + i * 4, none⟩)) (w' := w') (j := 11) (b := false) rfl rfl (by simp [yielded, many_some hgN (show 53 < 298 by decide) e53]) (fun c h => by cases h) (fun _ => trivial) ?_ ⟨z, by exact many_put3 (HOK.out _) (by rw [HVL.out]; rfl) hL, hph⟩
            go_simp
          · skip
            have y11 : L 11 = true := up_at hu 11 (by kernel_rfl)
            have y14 : L 14 = true := up_at hu 14 (by kernel_rfl)
            have e53 : (many gg_ L (VL z))[53]?.getD undef = .bool false := many_eval3 hgN (HOK.out z) (by rw [HVL.out]; rfl) y11
            have e56 : (many gg_ L (VL z))[56]?.getD undef = .pointer (some ⟨tg, tq + i * 4, none⟩) := many_eval3 hgN (HOK.out z) (by rw [HVL.out]; rfl) y14
            refine opIn_run_g (v := .pointer (some ⟨tg, tq + i * 4 + 1, none⟩)) (w' := w') (j := 11) (b := false) rfl rfl (by simp [yielded, many_some hgN (show 53 < 298 by decide) e53]) (fun c h => by cases h) (fun _ => trivial) ?_ ⟨z, by exact many_put3 (HOK.out _) (by rw [HVL.out]; rfl) hL, hph⟩
            go_simp
          · skip
            have y11 : L 11 = true := up_at hu 11 (by kernel_rfl)
            have y15 : L 15 = true := up_at hu 15 (by kernel_rfl)
            have hcell : w'.cell? ⟨tg, tq + i * 4 + 1, none⟩ = some (.int .i64 t1) := (hph.cell (p := ⟨tg, tq + i * 4 + 1, none⟩) HTC.out.1).trans HTC.out.2.2.1
            have e53 : (many gg_ L (VL z))[53]?.getD undef = .bool false := many_eval3 hgN (HOK.out z) (by rw [HVL.out]; rfl) y11
            have e57 : (many gg_ L (VL z))[57]?.getD undef = .pointer (some ⟨tg, tq + i * 4 + 1, none⟩) := many_eval3 hgN (HOK.out z) (by rw [HVL.out]; rfl) y15
            refine opIn_run_g (v := .int .i64 t1) (w' := w') (j := 11) (b := false) rfl rfl (by simp [yielded, many_some hgN (show 53 < 298 by decide) e53]) (fun c h => by cases h) (fun _ => trivial) ?_ ⟨z, by exact many_put3 (HOK.out _) (by rw [HVL.out]; rfl) hL, hph⟩
            go_simp
          · skip
            have y11 : L 11 = true := up_at hu 11 (by kernel_rfl)
            have e5 : (many gg_ L (VL z))[5]?.getD undef = .slice (some ⟨tg, tq, none⟩) tn TC := many_out3 hgN (HOK.out z) (by rw [HVL.out]; rfl) hF5
            have e53 : (many gg_ L (VL z))[53]?.getD undef = .bool false := many_eval3 hgN (HOK.out z) (by rw [HVL.out]; rfl) y11
            refine opIn_run_g (v := .slice (some ⟨tg, tq, none⟩) tn TC) (w' := w') (j := 11) (b := false) rfl rfl (by simp [yielded, many_some hgN (show 53 < 298 by decide) e53]) (fun c h => by cases h) (fun _ => trivial) ?_ ⟨z, by exact many_put3 (HOK.out _) (by rw [HVL.out]; rfl) hL, hph⟩
            go_simp
          · skip
            have y11 : L 11 = true := up_at hu 11 (by kernel_rfl)
            have e7 : (many gg_ L (VL z))[7]?.getD undef = .int .i64 (i : Int) := many_out3 hgN (HOK.out z) (by rw [HVL.out]; rfl) hF7
            have e53 : (many gg_ L (VL z))[53]?.getD undef = .bool false := many_eval3 hgN (HOK.out z) (by rw [HVL.out]; rfl) y11
            refine opIn_run_g (v := .int .i64 (i : Int)) (w' := w') (j := 11) (b := false) rfl rfl (by simp [yielded, many_some hgN (show 53 < 298 by decide) e53]) (fun c h => by cases h) (fun _ => trivial) ?_ ⟨z, by exact many_put3 (HOK.out _) (by rw [HVL.out]; rfl) hL, hph⟩
            go_simp
          · skip
            have y11 : L 11 = true := up_at hu 11 (by kernel_rfl)
            have y17 : L 17 = true := up_at hu 17 (by kernel_rfl)
            have y18 : L 18 = true := up_at hu 18 (by kernel_rfl)
            have e53 : (many gg_ L (VL z))[53]?.getD undef = .bool false := many_eval3 hgN (HOK.out z) (by rw [HVL.out]; rfl) y11
            have e59 : (many gg_ L (VL z))[59]?.getD undef = .slice (some ⟨tg, tq, none⟩) tn TC := many_eval3 hgN (HOK.out z) (by rw [HVL.out]; rfl) y17
            have e60 : (many gg_ L (VL z))[60]?.getD undef = .int .i64 (i : Int) := many_eval3 hgN (HOK.out z) (by rw [HVL.out]; rfl) y18
            refine opIn_run_g (v := .pointer (some ⟨tg, tq + i * 4, none⟩)) (w' := w') (j := 11) (b := false) rfl rfl (by simp [yielded, many_some hgN (show 53 < 298 by decide) e53]) (fun c h => by cases h) (fun _ => trivial) ?_ ⟨z, by exact many_put3 (HOK.out _) (by rw [HVL.out]; rfl) hL, hph⟩
            go_simp
          · skip
            have y11 : L 11 = true := up_at hu 11 (by kernel_rfl)
            have y19 : L 19 = true := up_at hu 19 (by kernel_rfl)
            have e53 : (many gg_ L (VL z))[53]?.getD undef = .bool false := many_eval3 hgN (HOK.out z) (by rw [HVL.out]; rfl) y11
            have e61 : (many gg_ L (VL z))[61]?.getD undef = .pointer (some ⟨tg, tq + i * 4, none⟩) := many_eval3 hgN (HOK.out z) (by rw [HVL.out]; rfl) y19
            refine opIn_run_g (v := .pointer (some ⟨tg, tq + i * 4 + 3, none⟩)) (w' := w') (j := 11) (b := false) rfl rfl (by simp [yielded, many_some hgN (show 53 < 298 by decide) e53]) (fun c h => by cases h) (fun _ => trivial) ?_ ⟨z, by exact many_put3 (HOK.out _) (by rw [HVL.out]; rfl) hL, hph⟩
            go_simp
          · skip
            have y11 : L 11 = true := up_at hu 11 (by kernel_rfl)
            have y20 : L 20 = true := up_at hu 20 (by kernel_rfl)
            have hcell : w'.cell? ⟨tg, tq + i * 4 + 3, none⟩ = some (.int .i64 t3) := (hph.cell (p := ⟨tg, tq + i * 4 + 3, none⟩) HTC.out.1).trans HTC.out.2.2.2.2
            have e53 : (many gg_ L (VL z))[53]?.getD undef = .bool false := many_eval3 hgN (HOK.out z) (by rw [HVL.out]; rfl) y11
            have e62 : (many gg_ L (VL z))[62]?.getD undef = .pointer (some ⟨tg, tq + i * 4 + 3, none⟩) := many_eval3 hgN (HOK.out z) (by rw [HVL.out]; rfl) y20
            refine opIn_run_g (v := .int .i64 t3) (w' := w') (j := 11) (b := false) rfl rfl (by simp [yielded, many_some hgN (show 53 < 298 by decide) e53]) (fun c h => by cases h) (fun _ => trivial) ?_ ⟨z, by exact many_put3 (HOK.out _) (by rw [HVL.out]; rfl) hL, hph⟩
            go_simp
          · skip
            have y11 : L 11 = true := up_at hu 11 (by kernel_rfl)
            have y16 : L 16 = true := up_at hu 16 (by kernel_rfl)
            have y21 : L 21 = true := up_at hu 21 (by kernel_rfl)
            have e53 : (many gg_ L (VL z))[53]?.getD undef = .bool false := many_eval3 hgN (HOK.out z) (by rw [HVL.out]; rfl) y11
            have e58 : (many gg_ L (VL z))[58]?.getD undef = .int .i64 t1 := many_eval3 hgN (HOK.out z) (by rw [HVL.out]; rfl) y16
            have e63 : (many gg_ L (VL z))[63]?.getD undef = .int .i64 t3 := many_eval3 hgN (HOK.out z) (by rw [HVL.out]; rfl) y21
            refine opIn_run_g (v := .bool false) (w' := w') (j := 11) (b := false) rfl rfl (by simp [yielded, many_some hgN (show 53 < 298 by decide) e53]) (fun c h => by cases h) (fun _ => trivial) ?_ ⟨z, by exact many_put3 (HOK.out _) (by rw [HVL.out]; rfl) hL, hph⟩
            go_simp
          · skip
            have y11 : L 11 = true := up_at hu 11 (by kernel_rfl)
            have y22 : L 22 = true := up_at hu 22 (by kernel_rfl)
            have e53 : (many gg_ L (VL z))[53]?.getD undef = .bool false := many_eval3 hgN (HOK.out z) (by rw [HVL.out]; rfl) y11
            have e64 : (many gg_ L (VL z))[64]?.getD undef = .bool false := many_eval3 hgN (HOK.out z) (by rw [HVL.out]; rfl) y22
            refine opIn_run (v := .bool false) (w' := w') rfl rfl (fun c h => by cases h) (fun _ => trivial) ?_ ⟨z, by exact many_put3 (HOK.out _) (by rw [HVL.out]; rfl) hL, hph⟩
            go_simp
          · skip
            have y11 : L 11 = true := up_at hu 11 (by kernel_rfl)
            have y23 : L 23 = true := up_at hu 23 (by kernel_rfl)
            have e65 : (many gg_ L (VL z))[65]?.getD undef = .bool false := many_eval3 hgN (HOK.out z) (by rw [HVL.out]; rfl) y23
            refine opIn_run (v := .bool false) (w' := w') rfl rfl (fun c h => by cases h) (fun _ => trivial) ?_ ⟨z, by exact many_put3 (HOK.out _) (by rw [HVL.out]; rfl) hL, hph⟩
            go_simp
          · skip
            have y24 : L 24 = true := up_at hu 24 (by kernel_rfl)
            have e5 : (many gg_ L (VL z))[5]?.getD undef = .slice (some ⟨tg, tq, none⟩) tn TC := many_out3 hgN (HOK.out z) (by rw [HVL.out]; rfl) hF5
            have e66 : (many gg_ L (VL z))[66]?.getD undef = .bool false := many_eval3 hgN (HOK.out z) (by rw [HVL.out]; rfl) y24
            refine opIn_run_g (v := .slice (some ⟨tg, tq, none⟩) tn TC) (w' := w') (j := 24) (b := false) rfl rfl (by simp [yielded, many_some hgN (show 66 < 298 by decide) e66]) (fun c h => by cases h) (fun _ => trivial) ?_ ⟨z, by exact many_put3 (HOK.out _) (by rw [HVL.out]; rfl) hL, hph⟩
            go_simp
          · skip
            have y24 : L 24 = true := up_at hu 24 (by kernel_rfl)
            have e7 : (many gg_ L (VL z))[7]?.getD undef = .int .i64 (i : Int) := many_out3 hgN (HOK.out z) (by rw [HVL.out]; rfl) hF7
            have e66 : (many gg_ L (VL z))[66]?.getD undef = .bool false := many_eval3 hgN (HOK.out z) (by rw [HVL.out]; rfl) y24
            refine opIn_run_g (v := .int .i64 (i : Int)) (w' := w') (j := 24) (b := false) rfl rfl (by simp [yielded, many_some hgN (show 66 < 298 by decide) e66]) (fun c h => by cases h) (fun _ => trivial) ?_ ⟨z, by exact many_put3 (HOK.out _) (by rw [HVL.out]; rfl) hL, hph⟩
            go_simp
          · skip
            have y24 : L 24 = true := up_at hu 24 (by kernel_rfl)
            have y25 : L 25 = true := up_at hu 25 (by kernel_rfl)
            have y26 : L 26 = true := up_at hu 26 (by kernel_rfl)
            have e66 : (many gg_ L (VL z))[66]?.getD undef = .bool false := many_eval3 hgN (HOK.out z) (by rw [HVL.out]; rfl) y24
            have e67 : (many gg_ L (VL z))[67]?.getD undef = .slice (some ⟨tg, tq, none⟩) tn TC := many_eval3 hgN (HOK.out z) (by rw [HVL.out]; rfl) y25
            have e68 : (many gg_ L (VL z))[68]?.getD undef = .int .i64 (i : Int) := many_eval3 hgN (HOK.out z) (by rw [HVL.out]; rfl) y26
            refine opIn_run_g (v := .pointer (some ⟨tg, tq + i * 4, none⟩)) (w' := w') (j := 24) (b := false) rfl rfl (by simp [yielded, many_some hgN (show 66 < 298 by decide) e66]) (fun c h => by cases h) (fun _ => trivial) ?_ ⟨z, by exact many_put3 (HOK.out _) (by rw [HVL.out]; rfl) hL, hph⟩
            go_simp
          · skip
            have y24 : L 24 = true := up_at hu 24 (by kernel_rfl)
            have y27 : L 27 = true := up_at hu 27 (by kernel_rfl)
            have e66 : (many gg_ L (VL z))[66]?.getD undef = .bool false := many_eval3 hgN (HOK.out z) (by rw [HVL.out]; rfl) y24
            have e69 : (many gg_ L (VL z))[69]?.getD undef = .pointer (some ⟨tg, tq + i * 4, none⟩) := many_eval3 hgN (HOK.out z) (by rw [HVL.out]; rfl) y27
            refine opIn_run_g (v := .pointer (some ⟨tg, tq + i * 4, none⟩)) (w' := w') (j := 24) (b := false) rfl rfl (by simp [yielded, many_some hgN (show 66 < 298 by decide) e66]) (fun c h => by cases h) (fun _ => trivial) ?_ ⟨z, by exact many_put3 (HOK.out _) (by rw [HVL.out]; rfl) hL, hph⟩
            go_simp
          · skip
            have y24 : L 24 = true := up_at hu 24 (by kernel_rfl)
            have y28 : L 28 = true := up_at hu 28 (by kernel_rfl)
            have hcell : w'.cell? ⟨tg, tq + i * 4, none⟩ = some (.int .i64 t0) := (hph.cell (p := ⟨tg, tq + i * 4, none⟩) HTC.out.1).trans HTC.out.2.1
            have e66 : (many gg_ L (VL z))[66]?.getD undef = .bool false := many_eval3 hgN (HOK.out z) (by rw [HVL.out]; rfl) y24
            have e70 : (many gg_ L (VL z))[70]?.getD undef = .pointer (some ⟨tg, tq + i * 4, none⟩) := many_eval3 hgN (HOK.out z) (by rw [HVL.out]; rfl) y28
            refine opIn_run_g (v := .int .i64 t0) (w' := w') (j := 24) (b := false) rfl rfl (by simp [yielded, many_some hgN (show 66 < 298 by decide) e66]) (fun c h => by cases h) (fun _ => trivial) ?_ ⟨z, by exact many_put3 (HOK.out _) (by rw [HVL.out]; rfl) hL, hph⟩
            go_simp
          · skip
            have y24 : L 24 = true := up_at hu 24 (by kernel_rfl)
            have e3 : (many gg_ L (VL z))[3]?.getD undef = .pointer (some ⟨bm, 0, none⟩) := many_out3 hgN (HOK.out z) (by rw [HVL.out]; rfl) hF3
            have e66 : (many gg_ L (VL z))[66]?.getD undef = .bool false := many_eval3 hgN (HOK.out z) (by rw [HVL.out]; rfl) y24
            refine opIn_run_g (v := .pointer (some ⟨bm, 2, none⟩)) (w' := w') (j := 24) (b := false) rfl rfl (by simp [yielded, many_some hgN (show 66 < 298 by decide) e66]) (fun c h => by cases h) (fun _ => trivial) ?_ ⟨z, by exact many_put3 (HOK.out _) (by rw [HVL.out]; rfl) hL, hph⟩
            go_simp
          · skip
            have y24 : L 24 = true := up_at hu 24 (by kernel_rfl)
            have y30 : L 30 = true := up_at hu 30 (by kernel_rfl)
            have hcell : w'.cell? ⟨bm, 2, none⟩ = some (.int .i64 OX) := blk_cell ((hph.block bm HBM.out.1).trans HBM.out.2) 2
            have e66 : (many gg_ L (VL z))[66]?.getD undef = .bool false := many_eval3 hgN (HOK.out z) (by rw [HVL.out]; rfl) y24
            have e72 : (many gg_ L (VL z))[72]?.getD undef = .pointer (some ⟨bm, 2, none⟩) := many_eval3 hgN (HOK.out z) (by rw [HVL.out]; rfl) y30
            refine opIn_run_g (v := .int .i64 OX) (w' := w') (j := 24) (b := false) rfl rfl (by simp [yielded, many_some hgN (show 66 < 298 by decide) e66]) (fun c h => by cases h) (fun _ => trivial) ?_ ⟨z, by exact many_put3 (HOK.out _) (by rw [HVL.out]; rfl) hL, hph⟩
            go_simp
          · skip
            have y24 : L 24 = true := up_at hu 24 (by kernel_rfl)
            have y29 : L 29 = true := up_at hu 29 (by kernel_rfl)
            have y31 : L 31 = true := up_at hu 31 (by kernel_rfl)
            have e66 : (many gg_ L (VL z))[66]?.getD undef = .bool false := many_eval3 hgN (HOK.out z) (by rw [HVL.out]; rfl) y24
            have e71 : (many gg_ L (VL z))[71]?.getD undef = .int .i64 t0 := many_eval3 hgN (HOK.out z) (by rw [HVL.out]; rfl) y29
            have e73 : (many gg_ L (VL z))[73]?.getD undef = .int .i64 OX := many_eval3 hgN (HOK.out z) (by rw [HVL.out]; rfl) y31
            refine opIn_run_g (v := .bool false) (w' := w') (j := 24) (b := false) rfl rfl (by simp [yielded, many_some hgN (show 66 < 298 by decide) e66]) (fun c h => by cases h) (fun _ => trivial) ?_ ⟨z, by exact many_put3 (HOK.out _) (by rw [HVL.out]; rfl) hL, hph⟩
            go_simp
          · skip
            have y24 : L 24 = true := up_at hu 24 (by kernel_rfl)
            have y32 : L 32 = true := up_at hu 32 (by kernel_rfl)
            have e66 : (many gg_ L (VL z))[66]?.getD undef = .bool false := many_eval3 hgN (HOK.out z) (by rw [HVL.out]; rfl) y24
            have e74 : (many gg_ L (VL z))[74]?.getD undef = .bool false := many_eval3 hgN (HOK.out z) (by rw [HVL.out]; rfl) y32
            refine opIn_run (v := .bool false) (w' := w') rfl rfl (fun c h => by cases h) (fun _ => trivial) ?_ ⟨z, by exact many_put3 (HOK.out _) (by rw [HVL.out]; rfl) hL, hph⟩
            go_simp
          · skip
            have y24 : L 24 = true := up_at hu 24 (by kernel_rfl)
            have y33 : L 33 = true := up_at hu 33 (by kernel_rfl)
            have e75 : (many gg_ L (VL z))[75]?.getD undef = .bool false := many_eval3 hgN (HOK.out z) (by rw [HVL.out]; rfl) y33
            refine opIn_run (v := .bool false) (w' := w') rfl rfl (fun c h => by cases h) (fun _ => trivial) ?_ ⟨z, by exact many_put3 (HOK.out _) (by rw [HVL.out]; rfl) hL, hph⟩
            go_simp
          · skip
            have y34 : L 34 = true := up_at hu 34 (by kernel_rfl)
            have e5 : (many gg_ L (VL z))[5]?.getD undef = .slice (some ⟨tg, tq, none⟩) tn TC := many_out3 hgN (HOK.out z) (by rw [HVL.out]; rfl) hF5
            have e76 : (many gg_ L (VL z))[76]?.getD undef = .bool false := many_eval3 hgN (HOK.out z) (by rw [HVL.out]; rfl) y34
            refine opIn_run_g (v := .slice (some ⟨tg, tq, none⟩) tn TC) (w' := w') (j := 34) (b := false) rfl rfl (by simp [yielded, many_some hgN (show 76 < 298 by decide) e76]) (fun c h => by cases h) (fun _ => trivial) ?_ ⟨z, by exact many_put3 (HOK.out _) (by rw [HVL.out]; rfl) hL, hph⟩
            go_simp
          · skip
            have y34 : L 34 = true := up_at hu 34 (by kernel_rfl)
            have e7 : (many gg_ L (VL z))[7]?.getD undef = .int .i64 (i : Int) := many_out3 hgN (HOK.out z) (by rw [HVL.out]; rfl) hF7
            have e76 : (many gg_ L (VL z))[76]?.getD undef = .bool false := many_eval3 hgN (HOK.out z) (by rw [HVL.out]; rfl) y34
            refine opIn_run_g (v := .int .i64 (i : Int)) (w' := w') (j := 34) (b := false) rfl rfl (by simp [yielded, many_some hgN (show 76 < 298 by decide) e76]) (fun c h => by cases h) (fun _ => trivial) ?_ ⟨z, by exact many_put3 (HOK.out _) (by rw [HVL.out]; rfl) hL, hph⟩
            go_simp
          · skip
            have y34 : L 34 = true := up_at hu 34 (by kernel_rfl)
            have y35 : L 35 = true := up_at hu 35 (by kernel_rfl)
            have y36 : L 36 = true := up_at hu 36 (by kernel_rfl)
            have e76 : (many gg_ L (VL z))[76]?.getD undef = .bool false := many_eval3 hgN (HOK.out z) (by rw [HVL.out]; rfl) y34
            have e77 : (many gg_ L (VL z))[77]?.getD undef = .slice (some ⟨tg, tq, none⟩) tn TC := many_eval3 hgN (HOK.out z) (by rw [HVL.out]; rfl) y35
            have e78 : (many gg_ L (VL z))[78]?.getD undef = .int .i64 (i : Int) := many_eval3 hgN (HOK.out z) (by rw [HVL.out]; rfl) y36
            refine opIn_run_g (v := .pointer (some ⟨tg, tq + i * 4, none⟩)) (w' := w') (j := 34) (b := false) rfl rfl (by simp [yielded, many_some hgN (show 76 < 298 by decide) e76]) (fun c h => by cases h) (fun _ => trivial) ?_ ⟨z, by exact many_put3 (HOK.out _) (by rw [HVL.out]; rfl) hL, hph⟩
            go_simp
          · skip
            have y34 : L 34 = true := up_at hu 34 (by kernel_rfl)
            have y37 : L 37 = true := up_at hu 37 (by kernel_rfl)
            have e76 : (many gg_ L (VL z))[76]?.getD undef = .bool false := many_eval3 hgN (HOK.out z) (by rw [HVL.out]; rfl) y34
            have e79 : (many gg_ L (VL z))[79]?.getD undef = .pointer (some ⟨tg, tq + i * 4, none⟩) := many_eval3 hgN (HOK.out z) (by rw [HVL.out]; rfl) y37
            refine opIn_run_g (v := .pointer (some ⟨tg, tq + i * 4 + 3, none⟩)) (w' := w') (j := 34) (b := false) rfl rfl (by simp [yielded, many_some hgN (show 76 < 298 by decide) e76]) (fun c h => by cases h) (fun _ => trivial) ?_ ⟨z, by exact many_put3 (HOK.out _) (by rw [HVL.out]; rfl) hL, hph⟩
            go_simp
          · skip
            have y34 : L 34 = true := up_at hu 34 (by kernel_rfl)
            have y38 : L 38 = true := up_at hu 38 (by kernel_rfl)
            have hcell : w'.cell? ⟨tg, tq + i * 4 + 3, none⟩ = some (.int .i64 t3) := (hph.cell (p := ⟨tg, tq + i * 4 + 3, none⟩) HTC.out.1).trans HTC.out.2.2.2.2
            have e76 : (many gg_ L (VL z))[76]?.getD undef = .bool false := many_eval3 hgN (HOK.out z) (by rw [HVL.out]; rfl) y34
            have e80 : (many gg_ L (VL z))[80]?.getD undef = .pointer (some ⟨tg, tq + i * 4 + 3, none⟩) := many_eval3 hgN (HOK.out z) (by rw [HVL.out]; rfl) y38
            refine opIn_run_g (v := .int .i64 t3) (w' := w') (j := 34) (b := false) rfl rfl (by simp [yielded, many_some hgN (show 76 < 298 by decide) e76]) (fun c h => by cases h) (fun _ => trivial) ?_ ⟨z, by exact many_put3 (HOK.out _) (by rw [HVL.out]; rfl) hL, hph⟩
            go_simp
          · skip
            have y34 : L 34 = true := up_at hu 34 (by kernel_rfl)
            have e3 : (many gg_ L (VL z))[3]?.getD undef = .pointer (some ⟨bm, 0, none⟩) := many_out3 hgN (HOK.out z) (by rw [HVL.out]; rfl) hF3
            have e76 : (many gg_ L (VL z))[76]?.getD undef = .bool false := many_eval3 hgN (HOK.out z) (by rw [HVL.out]; rfl) y34
            refine opIn_run_g (v := .pointer (some ⟨bm, 1, none⟩)) (w' := w') (j := 34) (b := false) rfl rfl (by simp [yielded, many_some hgN (show 76 < 298 by decide) e76]) (fun c h => by cases h) (fun _ => trivial) ?_ ⟨z, by exact many_put3 (HOK.out _) (by rw [HVL.out]; rfl) hL, hph⟩
            go_simp
          · skip
            have y34 : L 34 = true := up_at hu 34 (by kernel_rfl)
            have y40 : L 40 = true := up_at hu 40 (by kernel_rfl)
            have hcell : w'.cell? ⟨bm, 1, none⟩ = some (.int .i64 Y) := blk_cell ((hph.block bm HBM.out.1).trans HBM.out.2) 1
            have e76 : (many gg_ L (VL z))[76]?.getD undef = .bool false := many_eval3 hgN (HOK.out z) (by rw [HVL.out]; rfl) y34
            have e82 : (many gg_ L (VL z))[82]?.getD undef = .pointer (some ⟨bm, 1, none⟩) := many_eval3 hgN (HOK.out z) (by rw [HVL.out]; rfl) y40
            refine opIn_run_g (v := .int .i64 Y) (w' := w') (j := 34) (b := false) rfl rfl (by simp [yielded, many_some hgN (show 76 < 298 by decide) e76]) (fun c h => by cases h) (fun _ => trivial) ?_ ⟨z, by exact many_put3 (HOK.out _) (by rw [HVL.out]; rfl) hL, hph⟩
            go_simp
          · skip
            have y34 : L 34 = true := up_at hu 34 (by kernel_rfl)
            have y39 : L 39 = true := up_at hu 39 (by kernel_rfl)
            have y41 : L 41 = true := up_at hu 41 (by kernel_rfl)
            have e76 : (many gg_ L (VL z))[76]?.getD undef = .bool false := many_eval3 hgN (HOK.out z) (by rw [HVL.out]; rfl) y34
            have e81 : (many gg_ L (VL z))[81]?.getD undef = .int .i64 t3 := many_eval3 hgN (HOK.out z) (by rw [HVL.out]; rfl) y39
            have e83 : (many gg_ L (VL z))[83]?.getD undef = .int .i64 Y := many_eval3 hgN (HOK.out z) (by rw [HVL.out]; rfl) y41
            refine opIn_run_g (v := .bool false) (w' := w') (j := 34) (b := false) rfl rfl (by simp [yielded, many_some hgN (show 76 < 298 by decide) e76]) (fun c h => by cases h) (fun _ => trivial) ?_ ⟨z, by exact many_put3 (HOK.out _) (by rw [HVL.out]; rfl) hL, hph⟩
            go_simp
          · skip
            have y34 : L 34 = true := up_at hu 34 (by kernel_rfl)
            have y42 : L 42 = true := up_at hu 42 (by kernel_rfl)
            have e76 : (many gg_ L (VL z))[76]?.getD undef = .bool false := many_eval3 hgN (HOK.out z) (by rw [HVL.out]; rfl) y34
            have e84 : (many gg_ L (VL z))[84]?.getD undef = .bool false := many_eval3 hgN (HOK.out z) (by rw [HVL.out]; rfl) y42
            refine opIn_run (v := .bool false) (w' := w') rfl rfl (fun c h => by cases h) (fun _ => trivial) ?_ ⟨z, by exact many_put3 (HOK.out _) (by rw [HVL.out]; rfl) hL, hph⟩
            go_simp
        case fin =>
          intro L z w' hall hph
          rw [HVL.out]
          dsimp only [manyL, List.set_cons_zero, List.set_cons_succ]
          clear hall HVL HOK HVI
          have HPx := Lib.hid hph
          clear hph
          go_wp2_with fail
          go_meet
          exact ⟨rfl, HPx⟩
      case rest =>
        obtain ⟨rfl, HX⟩ := hcut
        obtain ⟨w5, hw5⟩ : ∃ w5, w5 = wc := ⟨wc, rfl⟩
        subst hw5
        have m0 : w5.cell? ⟨tg, tq + i * 4, none⟩ = some (.int .i64 t0) := (HX.out.cell (p := ⟨tg, _, none⟩) HTC.out.1).trans HTC.out.2.1
        have m1 : w5.cell? ⟨tg, tq + i * 4 + 1, none⟩ = some (.int .i64 t1) := (HX.out.cell (p := ⟨tg, _, none⟩) HTC.out.1).trans HTC.out.2.2.1
        have m2 : w5.cell? ⟨tg, tq + i * 4 + 2, none⟩ = some (.int .i64 t2) := (HX.out.cell (p := ⟨tg, _, none⟩) HTC.out.1).trans HTC.out.2.2.2.1
        have m3 : w5.cell? ⟨tg, tq + i * 4 + 3, none⟩ = some (.int .i64 t3) := (HX.out.cell (p := ⟨tg, _, none⟩) HTC.out.1).trans HTC.out.2.2.2.2
        go_wp2_with fail
        refine (AR.out _).mono ?_
        rintro e' w6 ⟨rfl, hb1⟩
        have HB6 := Lib.hid (HX.out.trans (hb1.mono HX.out.size))
        clear hb1 m0 m1 m2 m3 HX HBI AR
        go_wp2
        go_roundg g1
        case measure => omega
        case rel => exact ⟨i + 1, al + ar, by omega, by first | rfl | go_num, by go_num, hal3, Lib.hid ⟨HSU.out, HB6.out⟩⟩
    · obtain rfl : i = tn := by omega
      have hlc : ¬ (i : Int) < (i : Int) := by omega
      have HAL : Hid (al = sumA rs) := Lib.hid (by rw [HI.out.1, List.take_of_length_le (by rw [HRS.out.1]; exact Nat.le_refl _)])
      go_wp2_with fail
      rw [HAL.out]
      exact HQ.out _ _ _ _ _ _ _ _ _ _ _ _ _ _ _ _ _ _ _ _ _ _ _ _ _ _ _ _ _ _ _ _ _ _ _ _ _ _ _ _ _ _ _ _ _ _ _ _ _ _ _ _ _ _ _ _ _ _ wa (Lib.hid HI.out.2)
end Go.Proofs.Ythcpmonahmogaaa
