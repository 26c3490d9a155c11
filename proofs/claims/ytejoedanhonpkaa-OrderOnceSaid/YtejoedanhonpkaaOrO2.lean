/- Packets in order: OrderOnce: the resolutions of a component are gone through. -/
import Derived.Test.YtejoedanhonpkaaOrO1
import Derived.Test.YtejoedanhonpkaaOrL0
import Derived.Laws.Rows
import Derived.Deep.QuietTactic
import Derived.BigQuiet
import Derived.Deep.CutRange
import Derived.Deep.CutBlock
import Derived.Deep.LoopGhost
set_option linter.unusedVariables false
set_option linter.unusedSimpArgs false
namespace Go.Proofs.Ytejoedanhonpkaa
open Go.RowKit
set_option maxRecDepth 100000
set_option maxHeartbeats 16000000 in
theorem once_res {u0 u1 u2 u3 u4 u5 u7 u8 u14 u15 u16 u17 u18 u19 u20 u21 u22 u23 u24 u25 u26 u27 u28 u29 u30 u31 u32 u33 u34 u35 u36 u37 u38 u39 u40 u41 u42 u43 u44 u45 u46 u47 u48 u49 u50 u51 u52 u53 u54 u55 u56 u57 u58 u59 u60 u61 u62 u63 u64 u65 u66 u67 u68 u69 u70 u71 u72 u73 u74 u75 u76 u77 u78 u79 u80 u81 u82 u83 u84 u85 u86 u87 u88 u89 u90 u91 u92 u93 u94 u95 u96 u97 u98 u99 u100 u101 u102 u103 u104 u105 u106 u107 u108 u109 u110 u111 u112 u113 u114 u115 u116 u117 u118 u119 u120 u121 u122 u123 u124 u125 u126 u127 u128 u129 u130 u131 u132 u133 u134 u135 u136 u137 u138 u139 u140 u141 u142 u143 u144 u145 u146 u147 u148 u149 u150 u151 u152 u153 u154 u155 u156 u157 u158 u159 u160 u161 u162 u163 u164 u165 u166 u167 u168 u169 u170 u171 : Value} (pb q10 m KC LV PR LY c o s0 : Nat) (KA : Option Addr) (G : GE) (M : List Pk) (z0 z1 z2 z3 : Int) (W : World)
    (HP : Hid (pb < W.heap.size ∧ W.cell? ⟨pb, 2, none⟩ = some (.int .i64 (LV : Int)) ∧ W.cell? ⟨pb, 5, none⟩ = some (.int .i64 (PR : Int)) ∧ W.cell? ⟨pb, 8, none⟩ = some (.int .i64 (LY : Int)))) (HK : Hid (M.length = m ∧ KeyR W KA M)) (HQ10 : Hid (W.heap[q10]? = some (.cells #[.int .i64 z0, .int .i64 z1, .int .i64 z2, .int .i64 z3] 38 (0, 0))))
    (HO : Hid (OL G LY o M ∧ ∀ r, G.wh c r = (pcF (overN (z0, z1, z2, z3) ((2 ^ (LV - r) : Nat) : Int)) ((2 ^ PR : Nat) : Int)).1.toNat * (pcF (overN (z0, z1, z2, z3) ((2 ^ (LV - r) : Nat) : Int)) ((2 ^ PR : Nat) : Int)).2.toNat))
    (HZ : Hid (inN (z0, z1, z2, z3) 255 ∧ Ord4 (z0, z1, z2, z3))) (hs0 : s0 + cntR G c (LV + 1) * LY ≤ 13000000)
    (hlv : LV ≤ 5) (hpr : 1 ≤ PR ∧ PR ≤ 15) (hm : m ≤ 13000000) (hLY : LY ≤ 8) {Q : Exit → Act → World → Prop}
    (hQ : ∀ (v4 v14 v15 v16 v17 v18 v69 v70 v71 v72 v73 v74 v75 v76 v77 v78 v79 v80 v81 v82 v83 v84 v85 v86 v87 v88 v89 v90 v91 v92 v93 v94 v95 v96 v97 v98 v99 v100 v101 v102 v103 v104 v105 v106 v107 v108 v109 v110 v111 v112 v113 v114 v115 v116 v117 v118 v119 v120 v121 v122 v123 v124 v125 v126 v127 v128 v129 v130 v131 v132 v133 v134 v135 v136 v137 v138 v139 v140 v141 v142 v143 v144 v145 v146 v147 v148 v149 v150 v151 v152 v153 v154 v155 v156 v157 v158 v159 v160 v161 v162 v163 v164 v165 v166 v167 : Value) (W' : World), Hid (Below W.heap.size W W') → Q .normal ⟨#[u0, u1, u2, u3, v4, u5, .pointer (some ⟨pb, 0, none⟩), u7, u8, .slice KA m KC, .int .i64 ((s0 + cntR G c (LV + 1) * LY : Nat) : Int), .int .i64 (c : Int), .pointer (some ⟨q10, 0, none⟩), .int .i64 ((LV + 1 : Nat) : Int), v14, v15, v16, v17, v18, u19, u20, u21, u22, u23, u24, u25, u26, u27, u28, u29, u30, u31, u32, u33, u34, u35, u36, u37, u38, u39, u40, u41, u42, u43, u44, u45, u46, u47, u48, u49, u50, u51, u52, u53, u54, u55, u56, u57, u58, u59, u60, u61, u62, u63, u64, u65, u66, u67, u68, v69, v70, v71, v72, v73, v74, v75, v76, v77, v78, v79, v80, v81, v82, v83, v84, v85, v86, v87, v88, v89, v90, v91, v92, v93, v94, v95, v96, v97, v98, v99, v100, v101, v102, v103, v104, v105, v106, v107, v108, v109, v110, v111, v112, v113, v114, v115, v116, v117, v118, v119, v120, v121, v122, v123, v124, v125, v126, v127, v128, v129, v130, v131, v132, v133, v134, v135, v136, v137, v138, v139, v140, v141, v142, v143, v144, v145, v146, v147, v148, v149, v150, v151, v152, v153, v154, v155, v156, v157, v158, v159, v160, v161, v162, v163, v164, v165, v166, v167, u168, u169, u170, u171], []⟩ W') :
    (blkOf Try.f4 4).wp Try.prog Q ⟨#[u0, u1, u2, u3, u4, u5, .pointer (some ⟨pb, 0, none⟩), u7, u8, .slice KA m KC, .int .i64 (s0 : Int), .int .i64 (c : Int), .pointer (some ⟨q10, 0, none⟩), .int .i64 0, u14, u15, u16, u17, u18, u19, u20, u21, u22, u23, u24, u25, u26, u27, u28, u29, u30, u31, u32, u33, u34, u35, u36, u37, u38, u39, u40, u41, u42, u43, u44, u45, u46, u47, u48, u49, u50, u51, u52, u53, u54, u55, u56, u57, u58, u59, u60, u61, u62, u63, u64, u65, u66, u67, u68, u69, u70, u71, u72, u73, u74, u75, u76, u77, u78, u79, u80, u81, u82, u83, u84, u85, u86, u87, u88, u89, u90, u91, u92, u93, u94, u95, u96, u97, u98, u99, u100, u101, u102, u103, u104, u105, u106, u107, u108, u109, u110, u111, u112, u113, u114, u115, u116, u117, u118, u119, u120, u121, u122, u123, u124, u125, u126, u127, u128, u129, u130, u131, u132, u133, u134, u135, u136, u137, u138, u139, u140, u141, u142, u143, u144, u145, u146, u147, u148, u149, u150, u151, u152, u153, u154, u155, u156, u157, u158, u159, u160, u161, u162, u163, u164, u165, u166, u167, u168, u169, u170, u171], []⟩ W := by
  obtain ⟨o_, ho_⟩ : ∃ o, blkOf Try.f4 4 = o := ⟨_, rfl⟩
  rw [ho_]
  conv at ho_ => lhs; whnf
  subst ho_
  have HQ := Lib.hid hQ
  clear hQ
  go_wp2_with fail
  go_loopg [10, 13] (LV + 1) (fun g a v wr => ∃ r : Nat, r + g = LV + 1 ∧ a = .int .i64 ((s0 + cntR G c r * LY : Nat) : Int) ∧ v = .int .i64 (r : Int) ∧ Hid (Below W.heap.size W wr))
  case atStart => exact ⟨0, by omega, by simp [cntR], rfl, Lib.hid (Below.refl _ _)⟩
  case round =>
    obtain ⟨r, hrg2, rfl, rfl, HBd⟩ := hrel
    obtain ⟨wd, hwd⟩ : ∃ wa, wa = wr := ⟨wr, rfl⟩
    subst hwd
    obtain ⟨s, hs⟩ : ∃ n, s0 + cntR G c r * LY = n := ⟨_, rfl⟩
    rw [hs]
    have HS := Lib.hid hs
    clear hs
    have j2' : wd.cell? ⟨pb, 2, none⟩ = some (.int .i64 (LV : Int)) := (HBd.out.cell (p := ⟨pb, 2, none⟩) HP.out.1).trans HP.out.2.1
    by_cases hrL : r < LV + 1
    · obtain ⟨g2, rfl⟩ : ∃ g0, gk = g0 + 1 := ⟨gk - 1, by omega⟩
      have hrI : (r : Int) ≤ (LV : Int) := by omega
      have hzi : inN (z0, z1, z2, z3) 1000 := by obtain ⟨h1, h2, h3, h4⟩ := HZ.out.1; exact ⟨by omega, by omega, by omega, by omega⟩
      have RR := Lib.hid (fun u => rres_any (z0, z1, z2, z3) LV r u hzi (by omega))
      have hin := overN_in (n := ((2 ^ (LV - r) : Nat) : Int)) HZ.out.1 (two_pos _)
      have hor := overN_ord (n := ((2 ^ (LV - r) : Nat) : Int)) HZ.out.2 (two_pos _)
      have hwh := HO.out.2 r
      obtain ⟨q, hq⟩ : ∃ q, overN (z0, z1, z2, z3) ((2 ^ (LV - r) : Nat) : Int) = q := ⟨_, rfl⟩
      rw [hq] at hin hor hwh RR
      have hin1 : inN q 1000 := by obtain ⟨h1, h2, h3, h4⟩ := hin; exact ⟨by omega, by omega, by omega, by omega⟩
      have RP := Lib.hid (fun u => rprec_any q PR u hin1 hor (by omega))
      have hpb := pc_bd (z := q) (m := 255) ((2 ^ PR : Nat) : Int) (two_pos PR) (by omega) hin hor
      obtain ⟨PW, hPW⟩ : ∃ n : Int, (pcF q ((2 ^ PR : Nat) : Int)).1 = n := ⟨_, rfl⟩
      obtain ⟨PH, hPH⟩ : ∃ n : Int, (pcF q ((2 ^ PR : Nat) : Int)).2 = n := ⟨_, rfl⟩
      rw [hPW, hPH] at RP hpb hwh
      obtain ⟨wh, hwh2⟩ : ∃ n, PW.toNat * PH.toNat = n := ⟨_, rfl⟩
      obtain ⟨qn, hqn⟩ : ∃ n, wh * LY = n := ⟨_, rfl⟩
      have hwhb : wh ≤ 65025 := by rw [← hwh2]; exact Nat.le_trans (Nat.mul_le_mul (show PW.toNat ≤ 255 by omega) (show PH.toNat ≤ 255 by omega)) (by decide)
      have hqnb : qn ≤ 520200 := by rw [← hqn]; exact Nat.mul_le_mul hwhb hLY
      have hnx : s0 + cntR G c (r + 1) * LY = s + qn := by
        rw [cntR_succ, hwh, hwh2, Nat.add_mul, hqn, ← HS.out]; omega
      have hnm : s + qn ≤ 13000000 := by
        rw [← hnx]
        refine Nat.le_trans (Nat.add_le_add_left (Nat.mul_le_mul_right _ (cntR_mono G c (show r + 1 ≤ LV + 1 by omega))) _) hs0
      have HW : Hid ((G.wh c r = wh ∧ G.wh c r * LY = qn) ∧ s0 + cntR G c (r + 1) * LY = s + qn) := Lib.hid ⟨⟨by rw [hwh, hwh2], by rw [hwh, hwh2, hqn]⟩, hnx⟩
      have hm1 : PW * PH = (wh : Int) := by rw [← hwh2, Int.natCast_mul, Int.toNat_of_nonneg hpb.1.1, Int.toNat_of_nonneg hpb.2.1]
      have hm2 : (wh : Int) * (LY : Int) = (qn : Int) := by rw [← hqn]; push_cast; rfl
      obtain ⟨whI, hwhI⟩ : ∃ n, (wh : Int) = n := ⟨_, rfl⟩
      obtain ⟨lyI, hlyI⟩ : ∃ n, (LY : Int) = n := ⟨_, rfl⟩
      rw [hwhI] at hm1 hm2
      rw [hlyI] at hm2
      have HLI := Lib.hid hlyI
      have HWI := Lib.hid hwhI
      have HMM := Lib.hid (show _ ∧ _ from ⟨hm1, hm2⟩)
      obtain ⟨q0, q1, q2, q3⟩ := q
      simp only [rA] at RR RP
      clear hzi hq hin hor hin1 hpb hPW hPH hwh hwh2 hqn hnx hm1 hm2 hwhI hlyI
      go_wp2_with fail
      obtain ⟨VLp, hVL⟩ : ∃ VL : Unit → List (Nat × Nat × Value), VL = fun z => [(0, 76, .agg #[.int .i64 z0, .int .i64 z1, .int .i64 z2, .int .i64 z3]), (1, 77, .pointer (some ⟨pb, 2, none⟩)), (2, 78, .int .i64 (LV : Int)), (3, 79, .int .i64 (r : Int)), (4, 80, .agg #[.int .i64 q0, .int .i64 q1, .int .i64 q2, .int .i64 q3]), (5, 81, .pointer (some ⟨pb, 5, none⟩)), (6, 82, .int .i64 (PR : Int)), (7, 83, .tuple #[.int .i64 PW, .int .i64 PH]), (8, 75, .tuple #[.int .i64 PW, .int .i64 PH]), (9, 84, .int .i64 PW), (10, 85, .int .i64 PH), (11, 14, .int .i64 PW), (12, 15, .int .i64 PH)] := ⟨_, rfl⟩
      have hok : ∀ z, manyOk 172 (VLp z) := fun z => by rw [hVL]; exact okB_ok rfl
      have HVLp := Lib.hid hVL
      have hvi : ∀ z, ∀ x ∈ VLp z, x.1 < 13 := fun z => by rw [hVL]; exact ltB_ok rfl
      have HOKp := Lib.hid hok
      have HVIp := Lib.hid hvi
      clear hVL hok hvi
      refine (wpIn_wide (n := 9)).1 (regionIn_many (N := 172) (w := _) VLp (fun L z w' => Below W.heap.size W w') [(6, .pointer (some ⟨pb, 0, none⟩)), (12, .pointer (some ⟨q10, 0, none⟩)), (13, .int .i64 (r : Int))] (by kernel_rfl) (by kernel_rfl) rfl (by simp only [List.forall_mem_cons, List.not_mem_nil, false_imp_iff, implies_true, and_true]; exact ⟨rfl, rfl, rfl⟩) HVIp.out () ?startp ?stepp ?finp)
      case startp => exact HBd.out.drew
      case stepp =>
        intro gg_ hgN hgF ii_ hii_ L z w' hph hs hu
        have hF6 := hgF (6, .pointer (some ⟨pb, 0, none⟩)) (by simp)
        have hF12 := hgF (12, .pointer (some ⟨q10, 0, none⟩)) (by simp)
        have hF13 := hgF (13, .int .i64 (r : Int)) (by simp)
        have hL := hu.1
        have hii_ : ii_ < 13 := hii_
        clear hgF
        obtain rfl | rfl | rfl | rfl | rfl | rfl | rfl | rfl | rfl | rfl | rfl | rfl | rfl := (by omega : ii_ = 0 ∨ ii_ = 1 ∨ ii_ = 2 ∨ ii_ = 3 ∨ ii_ = 4 ∨ ii_ = 5 ∨ ii_ = 6 ∨ ii_ = 7 ∨ ii_ = 8 ∨ ii_ = 9 ∨ ii_ = 10 ∨ ii_ = 11 ∨ ii_ = 12)
        · skip
          have hq := (hph.block q10 (Array.getElem?_eq_some_iff.1 HQ10.out).1).trans HQ10.out
          have s0' : w'.cell? ⟨q10, 0, none⟩ = some (.int .i64 z0) := blk_cell hq 0
          have s1' : w'.cell? ⟨q10, 1, none⟩ = some (.int .i64 z1) := blk_cell hq 1
          have s2' : w'.cell? ⟨q10, 2, none⟩ = some (.int .i64 z2) := blk_cell hq 2
          have s3' : w'.cell? ⟨q10, 3, none⟩ = some (.int .i64 z3) := blk_cell hq 3
          have e12 : (many gg_ L (VLp z))[12]?.getD undef = .pointer (some ⟨q10, 0, none⟩) := many_out3 hgN (HOKp.out z) (by rw [HVLp.out]; rfl) hF12
          refine opIn_run (v := .agg #[.int .i64 z0, .int .i64 z1, .int .i64 z2, .int .i64 z3]) (w' := w') rfl rfl (fun c h => by cases h) (fun _ => trivial) ?_ ⟨z, by exact many_put3 (HOKp.out _) (by rw [HVLp.out]; rfl) hL, hph⟩
          go_simp
        · skip
          have e6 : (many gg_ L (VLp z))[6]?.getD undef = .pointer (some ⟨pb, 0, none⟩) := many_out3 hgN (HOKp.out z) (by rw [HVLp.out]; rfl) hF6
          refine opIn_run (v := .pointer (some ⟨pb, 2, none⟩)) (w' := w') rfl rfl (fun c h => by cases h) (fun _ => trivial) ?_ ⟨z, by exact many_put3 (HOKp.out _) (by rw [HVLp.out]; rfl) hL, hph⟩
          go_simp
        · skip
          have y1 : L 1 = true := up_at hu 1 (by kernel_rfl)
          have hcell : w'.cell? ⟨pb, 2, none⟩ = some (.int .i64 (LV : Int)) := (hph.cell (p := ⟨pb, 2, none⟩) HP.out.1).trans HP.out.2.1
          have e77 : (many gg_ L (VLp z))[77]?.getD undef = .pointer (some ⟨pb, 2, none⟩) := many_eval3 hgN (HOKp.out z) (by rw [HVLp.out]; rfl) y1
          refine opIn_run (v := .int .i64 (LV : Int)) (w' := w') rfl rfl (fun c h => by cases h) (fun _ => trivial) ?_ ⟨z, by exact many_put3 (HOKp.out _) (by rw [HVLp.out]; rfl) hL, hph⟩
          go_simp
        · skip
          have e13 : (many gg_ L (VLp z))[13]?.getD undef = .int .i64 (r : Int) := many_out3 hgN (HOKp.out z) (by rw [HVLp.out]; rfl) hF13
          refine opIn_run (v := .int .i64 (r : Int)) (w' := w') rfl rfl (fun c h => by cases h) (fun _ => trivial) ?_ ⟨z, by exact many_put3 (HOKp.out _) (by rw [HVLp.out]; rfl) hL, hph⟩
          go_simp
        · skip
          have y0 : L 0 = true := up_at hu 0 (by kernel_rfl)
          have y2 : L 2 = true := up_at hu 2 (by kernel_rfl)
          have y3 : L 3 = true := up_at hu 3 (by kernel_rfl)
          have e76 : (many gg_ L (VLp z))[76]?.getD undef = .agg #[.int .i64 z0, .int .i64 z1, .int .i64 z2, .int .i64 z3] := many_eval3 hgN (HOKp.out z) (by rw [HVLp.out]; rfl) y0
          have e78 : (many gg_ L (VLp z))[78]?.getD undef = .int .i64 (LV : Int) := many_eval3 hgN (HOKp.out z) (by rw [HVLp.out]; rfl) y2
          have e79 : (many gg_ L (VLp z))[79]?.getD undef = .int .i64 (r : Int) := many_eval3 hgN (HOKp.out z) (by rw [HVLp.out]; rfl) y3
          refine opIn_call (f := 18) (args := #[.agg #[.int .i64 z0, .int .i64 z1, .int .i64 z2, .int .i64 z3], .int .i64 (LV : Int), .int .i64 (r : Int)]) (w' := w') rfl rfl (fun c h => by cases h) (fun _ => trivial) rfl (by go_simp) ((callsIn_wide.2 (RR.out w')).mono ?_)
          rintro e w2 ⟨rfl, hb⟩
          exact ⟨_, rfl, z, by exact many_put3 (HOKp.out _) (by rw [HVLp.out]; rfl) hL, hph.trans (hb.mono hph.size)⟩
        · skip
          have e6 : (many gg_ L (VLp z))[6]?.getD undef = .pointer (some ⟨pb, 0, none⟩) := many_out3 hgN (HOKp.out z) (by rw [HVLp.out]; rfl) hF6
          refine opIn_run (v := .pointer (some ⟨pb, 5, none⟩)) (w' := w') rfl rfl (fun c h => by cases h) (fun _ => trivial) ?_ ⟨z, by exact many_put3 (HOKp.out _) (by rw [HVLp.out]; rfl) hL, hph⟩
          go_simp
        · skip
          have y5 : L 5 = true := up_at hu 5 (by kernel_rfl)
          have hcell : w'.cell? ⟨pb, 5, none⟩ = some (.int .i64 (PR : Int)) := (hph.cell (p := ⟨pb, 5, none⟩) HP.out.1).trans HP.out.2.2.1
          have e81 : (many gg_ L (VLp z))[81]?.getD undef = .pointer (some ⟨pb, 5, none⟩) := many_eval3 hgN (HOKp.out z) (by rw [HVLp.out]; rfl) y5
          refine opIn_run (v := .int .i64 (PR : Int)) (w' := w') rfl rfl (fun c h => by cases h) (fun _ => trivial) ?_ ⟨z, by exact many_put3 (HOKp.out _) (by rw [HVLp.out]; rfl) hL, hph⟩
          go_simp
        · skip
          have y4 : L 4 = true := up_at hu 4 (by kernel_rfl)
          have y6 : L 6 = true := up_at hu 6 (by kernel_rfl)
          have e80 : (many gg_ L (VLp z))[80]?.getD undef = .agg #[.int .i64 q0, .int .i64 q1, .int .i64 q2, .int .i64 q3] := many_eval3 hgN (HOKp.out z) (by rw [HVLp.out]; rfl) y4
          have e82 : (many gg_ L (VLp z))[82]?.getD undef = .int .i64 (PR : Int) := many_eval3 hgN (HOKp.out z) (by rw [HVLp.out]; rfl) y6
          refine opIn_call (f := 17) (args := #[.agg #[.int .i64 q0, .int .i64 q1, .int .i64 q2, .int .i64 q3], .int .i64 (PR : Int)]) (w' := w') rfl rfl (fun c h => by cases h) (fun _ => trivial) rfl (by go_simp) ((callsIn_wide.2 (RP.out w')).mono ?_)
          rintro e w2 ⟨rfl, hb⟩
          exact ⟨_, rfl, z, by exact many_put3 (HOKp.out _) (by rw [HVLp.out]; rfl) hL, hph.trans (hb.mono hph.size)⟩
        · skip
          have y7 : L 7 = true := up_at hu 7 (by kernel_rfl)
          have e83 : (many gg_ L (VLp z))[83]?.getD undef = .tuple #[.int .i64 PW, .int .i64 PH] := many_eval3 hgN (HOKp.out z) (by rw [HVLp.out]; rfl) y7
          refine opIn_run (v := .tuple #[.int .i64 PW, .int .i64 PH]) (w' := w') rfl rfl (fun c h => by cases h) (fun _ => trivial) ?_ ⟨z, by exact many_put3 (HOKp.out _) (by rw [HVLp.out]; rfl) hL, hph⟩
          go_simp
        · skip
          have y8 : L 8 = true := up_at hu 8 (by kernel_rfl)
          have e75 : (many gg_ L (VLp z))[75]?.getD undef = .tuple #[.int .i64 PW, .int .i64 PH] := many_eval3 hgN (HOKp.out z) (by rw [HVLp.out]; rfl) y8
          refine opIn_run (v := .int .i64 PW) (w' := w') rfl rfl (fun c h => by cases h) (fun _ => trivial) ?_ ⟨z, by exact many_put3 (HOKp.out _) (by rw [HVLp.out]; rfl) hL, hph⟩
          go_simp
        · skip
          have y8 : L 8 = true := up_at hu 8 (by kernel_rfl)
          have e75 : (many gg_ L (VLp z))[75]?.getD undef = .tuple #[.int .i64 PW, .int .i64 PH] := many_eval3 hgN (HOKp.out z) (by rw [HVLp.out]; rfl) y8
          refine opIn_run (v := .int .i64 PH) (w' := w') rfl rfl (fun c h => by cases h) (fun _ => trivial) ?_ ⟨z, by exact many_put3 (HOKp.out _) (by rw [HVLp.out]; rfl) hL, hph⟩
          go_simp
        · skip
          have y0 : L 0 = true := up_at hu 0 (by kernel_rfl)
          have y1 : L 1 = true := up_at hu 1 (by kernel_rfl)
          have y2 : L 2 = true := up_at hu 2 (by kernel_rfl)
          have y3 : L 3 = true := up_at hu 3 (by kernel_rfl)
          have y4 : L 4 = true := up_at hu 4 (by kernel_rfl)
          have y5 : L 5 = true := up_at hu 5 (by kernel_rfl)
          have y6 : L 6 = true := up_at hu 6 (by kernel_rfl)
          have y7 : L 7 = true := up_at hu 7 (by kernel_rfl)
          have y8 : L 8 = true := up_at hu 8 (by kernel_rfl)
          have y9 : L 9 = true := up_at hu 9 (by kernel_rfl)
          have e84 : (many gg_ L (VLp z))[84]?.getD undef = .int .i64 PW := many_eval3 hgN (HOKp.out z) (by rw [HVLp.out]; rfl) y9
          refine opIn_run (v := .int .i64 PW) (w' := w') rfl rfl (fun c h => by cases h) (fun _ => trivial) ?_ ⟨z, by exact many_put3 (HOKp.out _) (by rw [HVLp.out]; rfl) hL, hph⟩
          go_simp
        · skip
          have y0 : L 0 = true := up_at hu 0 (by kernel_rfl)
          have y1 : L 1 = true := up_at hu 1 (by kernel_rfl)
          have y2 : L 2 = true := up_at hu 2 (by kernel_rfl)
          have y3 : L 3 = true := up_at hu 3 (by kernel_rfl)
          have y4 : L 4 = true := up_at hu 4 (by kernel_rfl)
          have y5 : L 5 = true := up_at hu 5 (by kernel_rfl)
          have y6 : L 6 = true := up_at hu 6 (by kernel_rfl)
          have y7 : L 7 = true := up_at hu 7 (by kernel_rfl)
          have y8 : L 8 = true := up_at hu 8 (by kernel_rfl)
          have y9 : L 9 = true := up_at hu 9 (by kernel_rfl)
          have y10 : L 10 = true := up_at hu 10 (by kernel_rfl)
          have y11 : L 11 = true := up_at hu 11 (by kernel_rfl)
          have e85 : (many gg_ L (VLp z))[85]?.getD undef = .int .i64 PH := many_eval3 hgN (HOKp.out z) (by rw [HVLp.out]; rfl) y10
          refine opIn_run (v := .int .i64 PH) (w' := w') rfl rfl (fun c h => by cases h) (fun _ => trivial) ?_ ⟨z, by exact many_put3 (HOKp.out _) (by rw [HVLp.out]; rfl) hL, hph⟩
          go_simp
      case finp =>
        intro L z w' hall hph
        rw [HVLp.out]
        dsimp only [manyL, List.set_cons_zero, List.set_cons_succ]
        clear hall HVLp HOKp HVIp
        obtain ⟨we, hwe⟩ : ∃ W, W = w' := ⟨_, rfl⟩
        subst hwe
        have HBe := Lib.hid hph
        have hm1 := HMM.out.1
        have hm2 := HMM.out.2
        have hq13 : qn ≤ 13000000 := by omega
        have hb1 : -9223372036854775808 ≤ whI ∧ whI ≤ 9223372036854775807 := by have := HWI.out; omega
        have hb2 : -9223372036854775808 ≤ (qn : Int) ∧ (qn : Int) ≤ 9223372036854775807 := by omega
        have j8' : we.cell? ⟨pb, 8, none⟩ = some (.int .i64 lyI) := by rw [← HLI.out]; exact (HBe.out.cell (p := ⟨pb, 8, none⟩) HP.out.1).trans HP.out.2.2.2
        have hmk := hmkB we qn hq13
        clear hph HBd RR RP
        go_upto_block 6 with fail
        obtain ⟨sg, hsg⟩ : ∃ g, we.heap.size = g := ⟨_, rfl⟩
        obtain ⟨wf, hwf⟩ : ∃ X, we.alloc (Obj.cells (bA qn fun _ => false) 4) = X := ⟨_, rfl⟩
        rw [hwf, hsg]
        have HF : Hid (wf.heap[sg]? = some (.cells (bA qn fun _ => false) 4 (0, 0)) ∧ Below sg we wf ∧ W.heap.size ≤ sg) := Lib.hid ⟨by rw [← hwf, ← hsg]; exact World.alloc_heap_new we _, by rw [← hwf, ← hsg]; exact (Below.refl _ _).alloc (Nat.le_refl _) _, by rw [← hsg]; exact HBe.out.size⟩
        have HBf : Hid (Below W.heap.size W wf) := Lib.hid (HBe.out.trans (HF.out.2.1.mono HF.out.2.2))
        have HPf : Hid (pb < wf.heap.size ∧ pb ≠ sg ∧ wf.cell? ⟨pb, 8, none⟩ = some (.int .i64 (LY : Int))) := Lib.hid ⟨Nat.lt_of_lt_of_le HP.out.1 HBf.out.size, by have := HP.out.1; have := HF.out.2.2; omega, (HBf.out.cell (p := ⟨pb, 8, none⟩) HP.out.1).trans HP.out.2.2.2⟩
        have HKf : Hid (M.length = m ∧ ∀ (i : Nat) (x : Pk), M[i]? = some x → ∃ g o, KA = some ⟨g, o, none⟩ ∧ g < wf.heap.size ∧ g ≠ sg ∧ wf.cell? ⟨g, o + i * 4, none⟩ = some (.int .i64 x.ly) ∧ wf.cell? ⟨g, o + i * 4 + 1, none⟩ = some (.int .i64 x.rs) ∧ wf.cell? ⟨g, o + i * 4 + 2, none⟩ = some (.int .i64 x.cp) ∧ wf.cell? ⟨g, o + i * 4 + 3, none⟩ = some (.int .i64 x.pc)) := Lib.hid ⟨HK.out.1, fun i x hx => by
          obtain ⟨g, o', h1, h2, k0, k1, k2, k3⟩ := HK.out.2 i x hx
          exact ⟨g, o', h1, Nat.lt_of_lt_of_le h2 HBf.out.size, by have := HF.out.2.2; omega, (HBf.out.cell (p := ⟨g, _, none⟩) h2).trans k0, (HBf.out.cell (p := ⟨g, _, none⟩) h2).trans k1, (HBf.out.cell (p := ⟨g, _, none⟩) h2).trans k2, (HBf.out.cell (p := ⟨g, _, none⟩) h2).trans k3⟩⟩
        clear hwf hsg hmk j8' hm1 hm2
        refine wp_code (c' := blkOf Try.f4 6) (by kernel_rfl) (once_list pb sg m KC qn LY c r o KA G M wf HPf HKf (Lib.hid HF.out.1) (Lib.hid ⟨HO.out.1, HW.out.1.2⟩) hm (by omega) hLY ?_)
        intro v4 v18 v93 v94 v95 v96 v97 v98 v99 v100 v101 v102 v103 v104 v105 v106 v107 v108 v109 v110 v111 v112 v113 v114 v115 v116 v117 v118 v119 v120 v121 v122 v123 v124 v125 v126 v127 v128 v129 v130 v131 v132 v133 v134 v135 v136 v137 v138 v139 v140 v141 v142 v143 v144 v145 v146 v147 v148 v149 v150 v151 v152 v153 v154 v155 v156 v157 v158 v159 v160 v161 v162 v163 W' H2
        have HN : Hid (Below W.heap.size W W') := Lib.hid (HBf.out.grown H2.out HBf.out.size (fun j e => by injection e with e; have := HF.out.2.2; omega))
        have hnI : -9223372036854775808 ≤ (s : Int) + (qn : Int) ∧ (s : Int) + (qn : Int) ≤ 9223372036854775807 := by omega
        clear H2 HBf HPf HKf HF HBe
        go_wp2
        go_roundg g2
        case measure => omega
        case rel => exact ⟨r + 1, by omega, by rw [HW.out.2]; go_num, by go_num, HN⟩
    · obtain rfl : LV + 1 = r := by omega
      have hrI : ¬ ((LV + 1 : Nat) : Int) ≤ (LV : Int) := by omega
      rw [← HS.out]
      go_wp2_with fail
      exact HQ.out _ _ _ _ _ _ _ _ _ _ _ _ _ _ _ _ _ _ _ _ _ _ _ _ _ _ _ _ _ _ _ _ _ _ _ _ _ _ _ _ _ _ _ _ _ _ _ _ _ _ _ _ _ _ _ _ _ _ _ _ _ _ _ _ _ _ _ _ _ _ _ _ _ _ _ _ _ _ _ _ _ _ _ _ _ _ _ _ _ _ _ _ _ _ _ _ _ _ _ _ _ _ _ _ _ wd HBd
end Go.Proofs.Ytejoedanhonpkaa
