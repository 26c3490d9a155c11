/- canvas: CanvasBlocks: its greatest region. -/
import Derived.Test.YthcpmonahmogaaaCvCc
import Derived.Test.YthcpmonahmogaaaCvR0
import Derived.Test.YthcpmonahmogaaaReg3
import Derived.Test.YthcpmonahmogaaaCvM5
import Derived.Laws.Rows
import Derived.Deep.QuietTactic
import Derived.BigQuiet
import Derived.Deep.CutRange
import Derived.Deep.CutBlock
import Derived.Deep.LoopGhost
set_option linter.unusedVariables false
set_option linter.unusedSimpArgs false
namespace Go.Proofs.Ythcpmonahmogaaa
open Go.RowKit
set_option maxRecDepth 100000
set_option maxHeartbeats 8000000 in
theorem cbReg22 (g5 o5 bl C5 i : Nat) (x y c0 c1 c2 c3 d0 d1 ar : Int) (W5 wi : World) (hiI : (i : Int) < (bl : Int) ∧ (0 : Int) ≤ (i : Int)) (HCE : Hid (g5 < W5.heap.size ∧ W5.cell? ⟨g5, o5 + i * 4, none⟩ = some (.int .i64 c0) ∧ W5.cell? ⟨g5, o5 + i * 4 + 1, none⟩ = some (.int .i64 c1) ∧ W5.cell? ⟨g5, o5 + i * 4 + 2, none⟩ = some (.int .i64 c2) ∧ W5.cell? ⟨g5, o5 + i * 4 + 3, none⟩ = some (.int .i64 c3))) (HBi : Hid (Below W5.heap.size W5 wi)) (AR : Hid (∀ u, Calls Try.prog 32 #[.agg #[.int .i64 c0, .int .i64 c1, .int .i64 c2, .int .i64 c3]] u fun e w' => e = .returned (.int .i64 ar) ∧ Below u.heap.size u w')) (har1 : (ar == 0) = false) (har0 : ¬ ar = 0) (hx0 : ¬ x = 0) (hy0 : ¬ y = 0) (HDQ : Hid (IntKind.i64.wrap (c0.tdiv x) = d0 ∧ IntKind.i64.wrap ((c2 - 1).tdiv x) = d0 ∧ IntKind.i64.wrap (c1.tdiv y) = d1 ∧ IntKind.i64.wrap ((c3 - 1).tdiv y) = d1 ∧ IntKind.i64.wrap (c2 - 1) = c2 - 1 ∧ IntKind.i64.wrap (c3 - 1) = c3 - 1)) (fl : List Value) (hfl : fl.length = 254) (hf16 : fl.getD 16 undef = .int .i64 x) (hf17 : fl.getD 17 undef = .int .i64 y) (hf19 : fl.getD 19 undef = .slice (some ⟨g5, o5, none⟩) bl C5) (hf21 : fl.getD 21 undef = .int .i64 (i : Int)) {Q : Exit → Act → World → Prop} (hQ : ∀ w', Below W5.heap.size W5 w' → Q .normal ⟨(manyL fl [(0, 136, .slice (some ⟨g5, o5, none⟩) bl C5), (1, 137, .int .i64 (i : Int)), (2, 138, .pointer (some ⟨g5, o5 + i * 4, none⟩)), (3, 139, .agg #[.int .i64 c0, .int .i64 c1, .int .i64 c2, .int .i64 c3]), (4, 140, .int .i64 ar), (5, 141, .bool false), (6, 142, .bool false), (7, 143, .slice (some ⟨g5, o5, none⟩) bl C5), (8, 144, .int .i64 (i : Int)), (9, 145, .pointer (some ⟨g5, o5 + i * 4, none⟩)), (10, 146, .pointer (some ⟨g5, o5 + i * 4, none⟩)), (11, 147, .int .i64 c0), (12, 148, .int .i64 x), (13, 149, .int .i64 d0), (14, 150, .slice (some ⟨g5, o5, none⟩) bl C5), (15, 151, .int .i64 (i : Int)), (16, 152, .pointer (some ⟨g5, o5 + i * 4, none⟩)), (17, 153, .pointer (some ⟨g5, o5 + i * 4 + 2, none⟩)), (18, 154, .int .i64 c2), (19, 155, .int .i64 (c2 - 1)), (20, 156, .int .i64 x), (21, 157, .int .i64 d0), (22, 158, .bool false), (23, 159, .bool false), (24, 160, .bool false), (25, 161, .slice (some ⟨g5, o5, none⟩) bl C5), (26, 162, .int .i64 (i : Int)), (27, 163, .pointer (some ⟨g5, o5 + i * 4, none⟩)), (28, 164, .pointer (some ⟨g5, o5 + i * 4 + 1, none⟩)), (29, 165, .int .i64 c1), (30, 166, .int .i64 y), (31, 167, .int .i64 d1), (32, 168, .slice (some ⟨g5, o5, none⟩) bl C5), (33, 169, .int .i64 (i : Int)), (34, 170, .pointer (some ⟨g5, o5 + i * 4, none⟩)), (35, 171, .pointer (some ⟨g5, o5 + i * 4 + 3, none⟩)), (36, 172, .int .i64 c3), (37, 173, .int .i64 (c3 - 1)), (38, 174, .int .i64 y), (39, 175, .int .i64 d1), (40, 176, .bool false), (41, 177, .bool false)]).toArray, []⟩ w') :
    (Code.region 22 (regOps Try.f9 22) true).wp Try.prog Q ⟨fl.toArray, []⟩ wi := by
  obtain ⟨o_, ho_⟩ : ∃ o, regOps Try.f9 22 = o := ⟨_, rfl⟩
  rw [ho_]
  conv at ho_ => lhs; whnf
  subst ho_
  obtain ⟨VL, hVL⟩ : ∃ VL : Unit → List (Nat × Nat × Value), VL = fun z => [(0, 136, .slice (some ⟨g5, o5, none⟩) bl C5), (1, 137, .int .i64 (i : Int)), (2, 138, .pointer (some ⟨g5, o5 + i * 4, none⟩)), (3, 139, .agg #[.int .i64 c0, .int .i64 c1, .int .i64 c2, .int .i64 c3]), (4, 140, .int .i64 ar), (5, 141, .bool false), (6, 142, .bool false), (7, 143, .slice (some ⟨g5, o5, none⟩) bl C5), (8, 144, .int .i64 (i : Int)), (9, 145, .pointer (some ⟨g5, o5 + i * 4, none⟩)), (10, 146, .pointer (some ⟨g5, o5 + i * 4, none⟩)), (11, 147, .int .i64 c0), (12, 148, .int .i64 x), (13, 149, .int .i64 d0), (14, 150, .slice (some ⟨g5, o5, none⟩) bl C5), (15, 151, .int .i64 (i : Int)), (16, 152, .pointer (some ⟨g5, o5 + i * 4, none⟩)), (17, 153, .pointer (some ⟨g5, o5 + i * 4 + 2, none⟩)), (18, 154, .int .i64 c2), (19, 155, .int .i64 (c2 - 1)), (20, 156, .int .i64 x), (21, 157, .int .i64 d0), (22, 158, .bool false), (23, 159, .bool false), (24, 160, .bool false), (25, 161, .slice (some ⟨g5, o5, none⟩) bl C5), (26, 162, .int .i64 (i : Int)), (27, 163, .pointer (some ⟨g5, o5 + i * 4, none⟩)), (28, 164, .pointer (some ⟨g5, o5 + i * 4 + 1, none⟩)), (29, 165, .int .i64 c1), (30, 166, .int .i64 y), (31, 167, .int .i64 d1), (32, 168, .slice (some ⟨g5, o5, none⟩) bl C5), (33, 169, .int .i64 (i : Int)), (34, 170, .pointer (some ⟨g5, o5 + i * 4, none⟩)), (35, 171, .pointer (some ⟨g5, o5 + i * 4 + 3, none⟩)), (36, 172, .int .i64 c3), (37, 173, .int .i64 (c3 - 1)), (38, 174, .int .i64 y), (39, 175, .int .i64 d1), (40, 176, .bool false), (41, 177, .bool false)] := ⟨_, rfl⟩
  have hok : ∀ z, manyOk 254 (VL z) := fun z => by rw [hVL]; exact okB_ok rfl
  have HVL := Lib.hid hVL
  have hvi : ∀ z, ∀ x ∈ VL z, x.1 < 42 := fun z => by rw [hVL]; exact ltB_ok rfl
  have HOK := Lib.hid hok
  have HVI := Lib.hid hvi
  clear hVL hok hvi
  refine (wpIn_wide (n := 9)).1 (regionIn_many (N := 254) (w := wi) VL (fun L z w' => Below W5.heap.size W5 w') [(16, .int .i64 x), (17, .int .i64 y), (19, .slice (some ⟨g5, o5, none⟩) bl C5), (21, .int .i64 (i : Int))] (by kernel_rfl) (by kernel_rfl) hfl (by simp only [List.forall_mem_cons, List.not_mem_nil, false_imp_iff, implies_true, and_true]; exact ⟨hf16, hf17, hf19, hf21⟩) HVI.out () ?start ?step ?fin)
  case start => exact HBi.out.drew
  case step =>
    intro gg_ hgN hgF ii_ hii_ L z w' hph hs hu
    have hF16 := hgF (16, .int .i64 x) (by simp)
    have hF17 := hgF (17, .int .i64 y) (by simp)
    have hF19 := hgF (19, .slice (some ⟨g5, o5, none⟩) bl C5) (by simp)
    have hF21 := hgF (21, .int .i64 (i : Int)) (by simp)
    have hL := hu.1
    have hii_ : ii_ < 42 := hii_
    clear hgF
    obtain rfl | rfl | rfl | rfl | rfl | rfl | rfl | rfl | rfl | rfl | rfl | rfl | rfl | rfl | rfl | rfl | rfl | rfl | rfl | rfl | rfl | rfl | rfl | rfl | rfl | rfl | rfl | rfl | rfl | rfl | rfl | rfl | rfl | rfl | rfl | rfl | rfl | rfl | rfl | rfl | rfl | rfl := (by omega : ii_ = 0 ∨ ii_ = 1 ∨ ii_ = 2 ∨ ii_ = 3 ∨ ii_ = 4 ∨ ii_ = 5 ∨ ii_ = 6 ∨ ii_ = 7 ∨ ii_ = 8 ∨ ii_ = 9 ∨ ii_ = 10 ∨ ii_ = 11 ∨ ii_ = 12 ∨ ii_ = 13 ∨ ii_ = 14 ∨ ii_ = 15 ∨ ii_ = 16 ∨ ii_ = 17 ∨ ii_ = 18 ∨ ii_ = 19 ∨ ii_ = 20 ∨ ii_ = 21 ∨ ii_ = 22 ∨ ii_ = 23 ∨ ii_ = 24 ∨ ii_ = 25 ∨ ii_ = 26 ∨ ii_ = 27 ∨ ii_ = 28 ∨ ii_ = 29 ∨ ii_ = 30 ∨ ii_ = 31 ∨ ii_ = 32 ∨ ii_ = 33 ∨ ii_ = 34 ∨ ii_ = 35 ∨ ii_ = 36 ∨ ii_ = 37 ∨ ii_ = 38 ∨ ii_ = 39 ∨ ii_ = 40 ∨ ii_ = 41)
    · skip
      have e19 : (many gg_ L (VL z))[19]?.getD undef = .slice (some ⟨g5, o5, none⟩) bl C5 := many_out3 hgN (HOK.out z) (by rw [HVL.out]; rfl) hF19
      refine opIn_run (v := .slice (some ⟨g5, o5, none⟩) bl C5) (w' := w') rfl rfl (fun c h => by cases h) (fun _ => trivial) ?_ ⟨z, by exact many_put3 (HOK.out _) (by rw [HVL.out]; rfl) hL, hph⟩
      go_simp
    · skip
      have e21 : (many gg_ L (VL z))[21]?.getD undef = .int .i64 (i : Int) := many_out3 hgN (HOK.out z) (by rw [HVL.out]; rfl) hF21
      refine opIn_run (v := .int .i64 (i : Int)) (w' := w') rfl rfl (fun c h => by cases h) (fun _ => trivial) ?_ ⟨z, by exact many_put3 (HOK.out _) (by rw [HVL.out]; rfl) hL, hph⟩
      go_simp
    · skip
      have y0 : L 0 = true := up_at hu 0 (by kernel_rfl)
      have y1 : L 1 = true := up_at hu 1 (by kernel_rfl)
      have e136 : (many gg_ L (VL z))[136]?.getD undef = .slice (some ⟨g5, o5, none⟩) bl C5 := many_eval3 hgN (HOK.out z) (by rw [HVL.out]; rfl) y0
      have e137 : (many gg_ L (VL z))[137]?.getD undef = .int .i64 (i : Int) := many_eval3 hgN (HOK.out z) (by rw [HVL.out]; rfl) y1
      refine opIn_run (v := .pointer (some ⟨g5, o5 + i * 4, none⟩)) (w' := w') rfl rfl (fun c h => by cases h) (fun _ => trivial) ?_ ⟨z, by exact many_put3 (HOK.out _) (by rw [HVL.out]; rfl) hL, hph⟩
      go_simp
    · skip
      have y2 : L 2 = true := up_at hu 2 (by kernel_rfl)
      have y0c := (hph.cell (p := ⟨g5, o5 + i * 4, none⟩) HCE.out.1).trans HCE.out.2.1
      have y1c := (hph.cell (p := ⟨g5, o5 + i * 4 + 1, none⟩) HCE.out.1).trans HCE.out.2.2.1
      have y2c := (hph.cell (p := ⟨g5, o5 + i * 4 + 2, none⟩) HCE.out.1).trans HCE.out.2.2.2.1
      have y3c := (hph.cell (p := ⟨g5, o5 + i * 4 + 3, none⟩) HCE.out.1).trans HCE.out.2.2.2.2
      have e138 : (many gg_ L (VL z))[138]?.getD undef = .pointer (some ⟨g5, o5 + i * 4, none⟩) := many_eval3 hgN (HOK.out z) (by rw [HVL.out]; rfl) y2
      refine opIn_run (v := .agg #[.int .i64 c0, .int .i64 c1, .int .i64 c2, .int .i64 c3]) (w' := w') rfl rfl (fun c h => by cases h) (fun _ => trivial) ?_ ⟨z, by exact many_put3 (HOK.out _) (by rw [HVL.out]; rfl) hL, hph⟩
      go_simp
    · skip
      have y3 : L 3 = true := up_at hu 3 (by kernel_rfl)
      have e139 : (many gg_ L (VL z))[139]?.getD undef = .agg #[.int .i64 c0, .int .i64 c1, .int .i64 c2, .int .i64 c3] := many_eval3 hgN (HOK.out z) (by rw [HVL.out]; rfl) y3
      refine opIn_call (f := 32) (args := #[.agg #[.int .i64 c0, .int .i64 c1, .int .i64 c2, .int .i64 c3]]) (w' := w') rfl rfl (fun c h => by cases h) (fun _ => trivial) rfl (by go_simp) ((callsIn_wide.2 (AR.out w')).mono ?_)
      rintro e w2 ⟨rfl, hb⟩
      exact ⟨_, rfl, z, by exact many_put3 (HOK.out _) (by rw [HVL.out]; rfl) hL, hph.trans (hb.mono hph.size)⟩
    · skip
      have y4 : L 4 = true := up_at hu 4 (by kernel_rfl)
      have q := har1
      have e140 : (many gg_ L (VL z))[140]?.getD undef = .int .i64 ar := many_eval3 hgN (HOK.out z) (by rw [HVL.out]; rfl) y4
      refine opIn_run (v := .bool false) (w' := w') rfl rfl (fun c h => by cases h) (fun _ => trivial) ?_ ⟨z, by exact many_put3 (HOK.out _) (by rw [HVL.out]; rfl) hL, hph⟩
      go_simp
    · skip
      have y4 : L 4 = true := up_at hu 4 (by kernel_rfl)
      have y5 : L 5 = true := up_at hu 5 (by kernel_rfl)
      have e141 : (many gg_ L (VL z))[141]?.getD undef = .bool false := many_eval3 hgN (HOK.out z) (by rw [HVL.out]; rfl) y5
      refine opIn_run (v := .bool false) (w' := w') rfl rfl (fun c h => by cases h) (fun _ => trivial) ?_ ⟨z, by exact many_put3 (HOK.out _) (by rw [HVL.out]; rfl) hL, hph⟩
      go_simp
    · skip
      have y6 : L 6 = true := up_at hu 6 (by kernel_rfl)
      have e19 : (many gg_ L (VL z))[19]?.getD undef = .slice (some ⟨g5, o5, none⟩) bl C5 := many_out3 hgN (HOK.out z) (by rw [HVL.out]; rfl) hF19
      have e142 : (many gg_ L (VL z))[142]?.getD undef = .bool false := many_eval3 hgN (HOK.out z) (by rw [HVL.out]; rfl) y6
      refine opIn_run_g (v := .slice (some ⟨g5, o5, none⟩) bl C5) (w' := w') (j := 6) (b := false) rfl rfl (by simp [yielded, many_some hgN (show 142 < 254 by decide) e142]) (fun c h => by cases h) (fun _ => trivial) ?_ ⟨z, by exact many_put3 (HOK.out _) (by rw [HVL.out]; rfl) hL, hph⟩
      go_simp
    · skip
      have y6 : L 6 = true := up_at hu 6 (by kernel_rfl)
      have e21 : (many gg_ L (VL z))[21]?.getD undef = .int .i64 (i : Int) := many_out3 hgN (HOK.out z) (by rw [HVL.out]; rfl) hF21
      have e142 : (many gg_ L (VL z))[142]?.getD undef = .bool false := many_eval3 hgN (HOK.out z) (by rw [HVL.out]; rfl) y6
      refine opIn_run_g (v := .int .i64 (i : Int)) (w' := w') (j := 6) (b := false) rfl rfl (by simp [yielded, many_some hgN (show 142 < 254 by decide) e142]) (fun c h => by cases h) (fun _ => trivial) ?_ ⟨z, by exact many_put3 (HOK.out _) (by rw [HVL.out]; rfl) hL, hph⟩
      go_simp
    · skip
      have y6 : L 6 = true := up_at hu 6 (by kernel_rfl)
      have y7 : L 7 = true := up_at hu 7 (by kernel_rfl)
      have y8 : L 8 = true := up_at hu 8 (by kernel_rfl)
      have e142 : (many gg_ L (VL z))[142]?.getD undef = .bool false := many_eval3 hgN (HOK.out z) (by rw [HVL.out]; rfl) y6
      have e143 : (many gg_ L (VL z))[143]?.getD undef = .slice (some ⟨g5, o5, none⟩) bl C5 := many_eval3 hgN (HOK.out z) (by rw [HVL.out]; rfl) y7
      have e144 : (many gg_ L (VL z))[144]?.getD undef = .int .i64 (i : Int) := many_eval3 hgN (HOK.out z) (by rw [HVL.out]; rfl) y8
      refine opIn_run_g (v := .pointer (some ⟨g5, o5 + i * 4, none⟩)) (w' := w') (j := 6) (b := false) rfl rfl (by simp [yielded, many_some hgN (show 142 < 254 by decide) e142]) (fun c h => by cases h) (fun _ => trivial) ?_ ⟨z, by exact many_put3 (HOK.out _) (by rw [HVL.out]; rfl) hL, hph⟩
      go_simp
    · skip
      have y6 : L 6 = true := up_at hu 6 (by kernel_rfl)
      have y9 : L 9 = true := up_at hu 9 (by kernel_rfl)
      have e142 : (many gg_ L (VL z))[142]?.getD undef = .bool false := many_eval3 hgN (HOK.out z) (by rw [HVL.out]; rfl) y6
      have e145 : (many gg_ L (VL z))[145]?.getD undef = .pointer (some ⟨g5, o5 + i * 4, none⟩) := many_eval3 hgN (HOK.out z) (by rw [HVL.out]; rfl) y9
      refine opIn_run_g (v := .pointer (some ⟨g5, o5 + i * 4, none⟩)) (w' := w') (j := 6) (b := false) rfl rfl (by simp [yielded, many_some hgN (show 142 < 254 by decide) e142]) (fun c h => by cases h) (fun _ => trivial) ?_ ⟨z, by exact many_put3 (HOK.out _) (by rw [HVL.out]; rfl) hL, hph⟩
      go_simp
    · skip
      have y6 : L 6 = true := up_at hu 6 (by kernel_rfl)
      have y10 : L 10 = true := up_at hu 10 (by kernel_rfl)
      have hcell : w'.cell? ⟨g5, o5 + i * 4, none⟩ = some (.int .i64 c0) := (hph.cell (p := ⟨g5, o5 + i * 4, none⟩) HCE.out.1).trans HCE.out.2.1
      have e142 : (many gg_ L (VL z))[142]?.getD undef = .bool false := many_eval3 hgN (HOK.out z) (by rw [HVL.out]; rfl) y6
      have e146 : (many gg_ L (VL z))[146]?.getD undef = .pointer (some ⟨g5, o5 + i * 4, none⟩) := many_eval3 hgN (HOK.out z) (by rw [HVL.out]; rfl) y10
      refine opIn_run_g (v := .int .i64 c0) (w' := w') (j := 6) (b := false) rfl rfl (by simp [yielded, many_some hgN (show 142 < 254 by decide) e142]) (fun c h => by cases h) (fun _ => trivial) ?_ ⟨z, by exact many_put3 (HOK.out _) (by rw [HVL.out]; rfl) hL, hph⟩
      go_simp
    · skip
      have y6 : L 6 = true := up_at hu 6 (by kernel_rfl)
      have e16 : (many gg_ L (VL z))[16]?.getD undef = .int .i64 x := many_out3 hgN (HOK.out z) (by rw [HVL.out]; rfl) hF16
      have e142 : (many gg_ L (VL z))[142]?.getD undef = .bool false := many_eval3 hgN (HOK.out z) (by rw [HVL.out]; rfl) y6
      refine opIn_run_g (v := .int .i64 x) (w' := w') (j := 6) (b := false) rfl rfl (by simp [yielded, many_some hgN (show 142 < 254 by decide) e142]) (fun c h => by cases h) (fun _ => trivial) ?_ ⟨z, by exact many_put3 (HOK.out _) (by rw [HVL.out]; rfl) hL, hph⟩
      go_simp
    · skip
      have y6 : L 6 = true := up_at hu 6 (by kernel_rfl)
      have y11 : L 11 = true := up_at hu 11 (by kernel_rfl)
      have y12 : L 12 = true := up_at hu 12 (by kernel_rfl)
      have q := HDQ.out.1
      have e142 : (many gg_ L (VL z))[142]?.getD undef = .bool false := many_eval3 hgN (HOK.out z) (by rw [HVL.out]; rfl) y6
      have e147 : (many gg_ L (VL z))[147]?.getD undef = .int .i64 c0 := many_eval3 hgN (HOK.out z) (by rw [HVL.out]; rfl) y11
      have e148 : (many gg_ L (VL z))[148]?.getD undef = .int .i64 x := many_eval3 hgN (HOK.out z) (by rw [HVL.out]; rfl) y12
      refine opIn_run_g (v := .int .i64 d0) (w' := w') (j := 6) (b := false) rfl rfl (by simp [yielded, many_some hgN (show 142 < 254 by decide) e142]) (fun c h => by cases h) (fun _ => trivial) ?_ ⟨z, by exact many_put3 (HOK.out _) (by rw [HVL.out]; rfl) hL, hph⟩
      go_simp
    · skip
      have y6 : L 6 = true := up_at hu 6 (by kernel_rfl)
      have e19 : (many gg_ L (VL z))[19]?.getD undef = .slice (some ⟨g5, o5, none⟩) bl C5 := many_out3 hgN (HOK.out z) (by rw [HVL.out]; rfl) hF19
      have e142 : (many gg_ L (VL z))[142]?.getD undef = .bool false := many_eval3 hgN (HOK.out z) (by rw [HVL.out]; rfl) y6
      refine opIn_run_g (v := .slice (some ⟨g5, o5, none⟩) bl C5) (w' := w') (j := 6) (b := false) rfl rfl (by simp [yielded, many_some hgN (show 142 < 254 by decide) e142]) (fun c h => by cases h) (fun _ => trivial) ?_ ⟨z, by exact many_put3 (HOK.out _) (by rw [HVL.out]; rfl) hL, hph⟩
      go_simp
    · skip
      have y6 : L 6 = true := up_at hu 6 (by kernel_rfl)
      have e21 : (many gg_ L (VL z))[21]?.getD undef = .int .i64 (i : Int) := many_out3 hgN (HOK.out z) (by rw [HVL.out]; rfl) hF21
      have e142 : (many gg_ L (VL z))[142]?.getD undef = .bool false := many_eval3 hgN (HOK.out z) (by rw [HVL.out]; rfl) y6
      refine opIn_run_g (v := .int .i64 (i : Int)) (w' := w') (j := 6) (b := false) rfl rfl (by simp [yielded, many_some hgN (show 142 < 254 by decide) e142]) (fun c h => by cases h) (fun _ => trivial) ?_ ⟨z, by exact many_put3 (HOK.out _) (by rw [HVL.out]; rfl) hL, hph⟩
      go_simp
    · skip
      have y6 : L 6 = true := up_at hu 6 (by kernel_rfl)
      have y14 : L 14 = true := up_at hu 14 (by kernel_rfl)
      have y15 : L 15 = true := up_at hu 15 (by kernel_rfl)
      have e142 : (many gg_ L (VL z))[142]?.getD undef = .bool false := many_eval3 hgN (HOK.out z) (by rw [HVL.out]; rfl) y6
      have e150 : (many gg_ L (VL z))[150]?.getD undef = .slice (some ⟨g5, o5, none⟩) bl C5 := many_eval3 hgN (HOK.out z) (by rw [HVL.out]; rfl) y14
      have e151 : (many gg_ L (VL z))[151]?.getD undef = .int .i64 (i : Int) := many_eval3 hgN (HOK.out z) (by rw [HVL.out]; rfl) y15
      refine opIn_run_g (v := .pointer (some ⟨g5, o5 + i * 4, none⟩)) (w' := w') (j := 6) (b := false) rfl rfl (by simp [yielded, many_some hgN (show 142 < 254 by decide) e142]) (fun c h => by cases h) (fun _ => trivial) ?_ ⟨z, by exact many_put3 (HOK.out _) (by rw [HVL.out]; rfl) hL, hph⟩
      go_simp
    · skip
      have y6 : L 6 = true := up_at hu 6 (by kernel_rfl)
      have y16 : L 16 = true := up_at hu 16 (by kernel_rfl)
      have e142 : (many gg_ L (VL z))[142]?.getD undef = .bool false := many_eval3 hgN (HOK.out z) (by rw [HVL.out]; rfl) y6
      have e152 : (many gg_ L (VL z))[152]?.getD undef = .pointer (some ⟨g5, o5 + i * 4, none⟩) := many_eval3 hgN (HOK.out z) (by rw [HVL.out]; rfl) y16
      refine opIn_run_g (v := .pointer (some ⟨g5, o5 + i * 4 + 2, none⟩)) (w' := w') (j := 6) (b := false) rfl rfl (by simp [yielded, many_some hgN (show 142 < 254 by decide) e142]) (fun c h => by cases h) (fun _ => trivial) ?_ ⟨z, by exact many_put3 (HOK.out _) (by rw [HVL.out]; rfl) hL, hph⟩
      go_simp
    · skip
      have y6 : L 6 = true := up_at hu 6 (by kernel_rfl)
      have y17 : L 17 = true := up_at hu 17 (by kernel_rfl)
      have hcell : w'.cell? ⟨g5, o5 + i * 4 + 2, none⟩ = some (.int .i64 c2) := (hph.cell (p := ⟨g5, o5 + i * 4 + 2, none⟩) HCE.out.1).trans HCE.out.2.2.2.1
      have e142 : (many gg_ L (VL z))[142]?.getD undef = .bool false := many_eval3 hgN (HOK.out z) (by rw [HVL.out]; rfl) y6
      have e153 : (many gg_ L (VL z))[153]?.getD undef = .pointer (some ⟨g5, o5 + i * 4 + 2, none⟩) := many_eval3 hgN (HOK.out z) (by rw [HVL.out]; rfl) y17
      refine opIn_run_g (v := .int .i64 c2) (w' := w') (j := 6) (b := false) rfl rfl (by simp [yielded, many_some hgN (show 142 < 254 by decide) e142]) (fun c h => by cases h) (fun _ => trivial) ?_ ⟨z, by exact many_put3 (HOK.out _) (by rw [HVL.out]; rfl) hL, hph⟩
      go_simp
    · skip
      have y6 : L 6 = true := up_at hu 6 (by kernel_rfl)
      have y18 : L 18 = true := up_at hu 18 (by kernel_rfl)
      have q := HDQ.out.2.2.2.2.1
      have e142 : (many gg_ L (VL z))[142]?.getD undef = .bool false := many_eval3 hgN (HOK.out z) (by rw [HVL.out]; rfl) y6
      have e154 : (many gg_ L (VL z))[154]?.getD undef = .int .i64 c2 := many_eval3 hgN (HOK.out z) (by rw [HVL.out]; rfl) y18
      refine opIn_run_g (v := .int .i64 (c2 - 1)) (w' := w') (j := 6) (b := false) rfl rfl (by simp [yielded, many_some hgN (show 142 < 254 by decide) e142]) (fun c h => by cases h) (fun _ => trivial) ?_ ⟨z, by exact many_put3 (HOK.out _) (by rw [HVL.out]; rfl) hL, hph⟩
      go_simp
    · skip
      have y6 : L 6 = true := up_at hu 6 (by kernel_rfl)
      have e16 : (many gg_ L (VL z))[16]?.getD undef = .int .i64 x := many_out3 hgN (HOK.out z) (by rw [HVL.out]; rfl) hF16
      have e142 : (many gg_ L (VL z))[142]?.getD undef = .bool false := many_eval3 hgN (HOK.out z) (by rw [HVL.out]; rfl) y6
      refine opIn_run_g (v := .int .i64 x) (w' := w') (j := 6) (b := false) rfl rfl (by simp [yielded, many_some hgN (show 142 < 254 by decide) e142]) (fun c h => by cases h) (fun _ => trivial) ?_ ⟨z, by exact many_put3 (HOK.out _) (by rw [HVL.out]; rfl) hL, hph⟩
      go_simp
    · skip
      have y6 : L 6 = true := up_at hu 6 (by kernel_rfl)
      have y19 : L 19 = true := up_at hu 19 (by kernel_rfl)
      have y20 : L 20 = true := up_at hu 20 (by kernel_rfl)
      have q := HDQ.out.2.1
      have e142 : (many gg_ L (VL z))[142]?.getD undef = .bool false := many_eval3 hgN (HOK.out z) (by rw [HVL.out]; rfl) y6
      have e155 : (many gg_ L (VL z))[155]?.getD undef = .int .i64 (c2 - 1) := many_eval3 hgN (HOK.out z) (by rw [HVL.out]; rfl) y19
      have e156 : (many gg_ L (VL z))[156]?.getD undef = .int .i64 x := many_eval3 hgN (HOK.out z) (by rw [HVL.out]; rfl) y20
      refine opIn_run_g (v := .int .i64 d0) (w' := w') (j := 6) (b := false) rfl rfl (by simp [yielded, many_some hgN (show 142 < 254 by decide) e142]) (fun c h => by cases h) (fun _ => trivial) ?_ ⟨z, by exact many_put3 (HOK.out _) (by rw [HVL.out]; rfl) hL, hph⟩
      go_simp
    · skip
      have y6 : L 6 = true := up_at hu 6 (by kernel_rfl)
      have y13 : L 13 = true := up_at hu 13 (by kernel_rfl)
      have y21 : L 21 = true := up_at hu 21 (by kernel_rfl)
      have e142 : (many gg_ L (VL z))[142]?.getD undef = .bool false := many_eval3 hgN (HOK.out z) (by rw [HVL.out]; rfl) y6
      have e149 : (many gg_ L (VL z))[149]?.getD undef = .int .i64 d0 := many_eval3 hgN (HOK.out z) (by rw [HVL.out]; rfl) y13
      have e157 : (many gg_ L (VL z))[157]?.getD undef = .int .i64 d0 := many_eval3 hgN (HOK.out z) (by rw [HVL.out]; rfl) y21
      refine opIn_run_g (v := .bool false) (w' := w') (j := 6) (b := false) rfl rfl (by simp [yielded, many_some hgN (show 142 < 254 by decide) e142]) (fun c h => by cases h) (fun _ => trivial) ?_ ⟨z, by exact many_put3 (HOK.out _) (by rw [HVL.out]; rfl) hL, hph⟩
      go_simp
    · skip
      have y6 : L 6 = true := up_at hu 6 (by kernel_rfl)
      have y22 : L 22 = true := up_at hu 22 (by kernel_rfl)
      have e142 : (many gg_ L (VL z))[142]?.getD undef = .bool false := many_eval3 hgN (HOK.out z) (by rw [HVL.out]; rfl) y6
      have e158 : (many gg_ L (VL z))[158]?.getD undef = .bool false := many_eval3 hgN (HOK.out z) (by rw [HVL.out]; rfl) y22
      refine opIn_run (v := .bool false) (w' := w') rfl rfl (fun c h => by cases h) (fun _ => trivial) ?_ ⟨z, by exact many_put3 (HOK.out _) (by rw [HVL.out]; rfl) hL, hph⟩
      go_simp
    · skip
      have y6 : L 6 = true := up_at hu 6 (by kernel_rfl)
      have y23 : L 23 = true := up_at hu 23 (by kernel_rfl)
      have e159 : (many gg_ L (VL z))[159]?.getD undef = .bool false := many_eval3 hgN (HOK.out z) (by rw [HVL.out]; rfl) y23
      refine opIn_run (v := .bool false) (w' := w') rfl rfl (fun c h => by cases h) (fun _ => trivial) ?_ ⟨z, by exact many_put3 (HOK.out _) (by rw [HVL.out]; rfl) hL, hph⟩
      go_simp
    · skip
      have y24 : L 24 = true := up_at hu 24 (by kernel_rfl)
      have e19 : (many gg_ L (VL z))[19]?.getD undef = .slice (some ⟨g5, o5, none⟩) bl C5 := many_out3 hgN (HOK.out z) (by rw [HVL.out]; rfl) hF19
      have e160 : (many gg_ L (VL z))[160]?.getD undef = .bool false := many_eval3 hgN (HOK.out z) (by rw [HVL.out]; rfl) y24
      refine opIn_run_g (v := .slice (some ⟨g5, o5, none⟩) bl C5) (w' := w') (j := 24) (b := false) rfl rfl (by simp [yielded, many_some hgN (show 160 < 254 by decide) e160]) (fun c h => by cases h) (fun _ => trivial) ?_ ⟨z, by exact many_put3 (HOK.out _) (by rw [HVL.out]; rfl) hL, hph⟩
      go_simp
    · skip
      have y24 : L 24 = true := up_at hu 24 (by kernel_rfl)
      have e21 : (many gg_ L (VL z))[21]?.getD undef = .int .i64 (i : Int) := many_out3 hgN (HOK.out z) (by rw [HVL.out]; rfl) hF21
      have e160 : (many gg_ L (VL z))[160]?.getD undef = .bool false := many_eval3 hgN (HOK.out z) (by rw [HVL.out]; rfl) y24
      refine opIn_run_g (v := .int .i64 (i : Int)) (w' := w') (j := 24) (b := false) rfl rfl (by simp [yielded, many_some hgN (show 160 < 254 by decide) e160]) (fun c h => by cases h) (fun _ => trivial) ?_ ⟨z, by exact many_put3 (HOK.out _) (by rw [HVL.out]; rfl) hL, hph⟩
      go_simp
    · skip
      have y24 : L 24 = true := up_at hu 24 (by kernel_rfl)
      have y25 : L 25 = true := up_at hu 25 (by kernel_rfl)
      have y26 : L 26 = true := up_at hu 26 (by kernel_rfl)
      have e160 : (many gg_ L (VL z))[160]?.getD undef = .bool false := many_eval3 hgN (HOK.out z) (by rw [HVL.out]; rfl) y24
      have e161 : (many gg_ L (VL z))[161]?.getD undef = .slice (some ⟨g5, o5, none⟩) bl C5 := many_eval3 hgN (HOK.out z) (by rw [HVL.out]; rfl) y25
      have e162 : (many gg_ L (VL z))[162]?.getD undef = .int .i64 (i : Int) := many_eval3 hgN (HOK.out z) (by rw [HVL.out]; rfl) y26
      refine opIn_run_g (v := .pointer (some ⟨g5, o5 + i * 4, none⟩)) (w' := w') (j := 24) (b := false) rfl rfl (by simp [yielded, many_some hgN (show 160 < 254 by decide) e160]) (fun c h => by cases h) (fun _ => trivial) ?_ ⟨z, by exact many_put3 (HOK.out _) (by rw [HVL.out]; rfl) hL, hph⟩
      go_simp
    · skip
      have y24 : L 24 = true := up_at hu 24 (by kernel_rfl)
      have y27 : L 27 = true := up_at hu 27 (by kernel_rfl)
      have e160 : (many gg_ L (VL z))[160]?.getD undef = .bool false := many_eval3 hgN (HOK.out z) (by rw [HVL.out]; rfl) y24
      have e163 : (many gg_ L (VL z))[163]?.getD undef = .pointer (some ⟨g5, o5 + i * 4, none⟩) := many_eval3 hgN (HOK.out z) (by rw [HVL.out]; rfl) y27
      refine opIn_run_g (v := .pointer (some ⟨g5, o5 + i * 4 + 1, none⟩)) (w' := w') (j := 24) (b := false) rfl rfl (by simp [yielded, many_some hgN (show 160 < 254 by decide) e160]) (fun c h => by cases h) (fun _ => trivial) ?_ ⟨z, by exact many_put3 (HOK.out _) (by rw [HVL.out]; rfl) hL, hph⟩
      go_simp
    · skip
      have y24 : L 24 = true := up_at hu 24 (by kernel_rfl)
      have y28 : L 28 = true := up_at hu 28 (by kernel_rfl)
      have hcell : w'.cell? ⟨g5, o5 + i * 4 + 1, none⟩ = some (.int .i64 c1) := (hph.cell (p := ⟨g5, o5 + i * 4 + 1, none⟩) HCE.out.1).trans HCE.out.2.2.1
      have e160 : (many gg_ L (VL z))[160]?.getD undef = .bool false := many_eval3 hgN (HOK.out z) (by rw [HVL.out]; rfl) y24
      have e164 : (many gg_ L (VL z))[164]?.getD undef = .pointer (some ⟨g5, o5 + i * 4 + 1, none⟩) := many_eval3 hgN (HOK.out z) (by rw [HVL.out]; rfl) y28
      refine opIn_run_g (v := .int .i64 c1) (w' := w') (j := 24) (b := false) rfl rfl (by simp [yielded, many_some hgN (show 160 < 254 by decide) e160]) (fun c h => by cases h) (fun _ => trivial) ?_ ⟨z, by exact many_put3 (HOK.out _) (by rw [HVL.out]; rfl) hL, hph⟩
      go_simp
    · skip
      have y24 : L 24 = true := up_at hu 24 (by kernel_rfl)
      have e17 : (many gg_ L (VL z))[17]?.getD undef = .int .i64 y := many_out3 hgN (HOK.out z) (by rw [HVL.out]; rfl) hF17
      have e160 : (many gg_ L (VL z))[160]?.getD undef = .bool false := many_eval3 hgN (HOK.out z) (by rw [HVL.out]; rfl) y24
      refine opIn_run_g (v := .int .i64 y) (w' := w') (j := 24) (b := false) rfl rfl (by simp [yielded, many_some hgN (show 160 < 254 by decide) e160]) (fun c h => by cases h) (fun _ => trivial) ?_ ⟨z, by exact many_put3 (HOK.out _) (by rw [HVL.out]; rfl) hL, hph⟩
      go_simp
    · skip
      have y24 : L 24 = true := up_at hu 24 (by kernel_rfl)
      have y29 : L 29 = true := up_at hu 29 (by kernel_rfl)
      have y30 : L 30 = true := up_at hu 30 (by kernel_rfl)
      have q := HDQ.out.2.2.1
      have e160 : (many gg_ L (VL z))[160]?.getD undef = .bool false := many_eval3 hgN (HOK.out z) (by rw [HVL.out]; rfl) y24
      have e165 : (many gg_ L (VL z))[165]?.getD undef = .int .i64 c1 := many_eval3 hgN (HOK.out z) (by rw [HVL.out]; rfl) y29
      have e166 : (many gg_ L (VL z))[166]?.getD undef = .int .i64 y := many_eval3 hgN (HOK.out z) (by rw [HVL.out]; rfl) y30
      refine opIn_run_g (v := .int .i64 d1) (w' := w') (j := 24) (b := false) rfl rfl (by simp [yielded, many_some hgN (show 160 < 254 by decide) e160]) (fun c h => by cases h) (fun _ => trivial) ?_ ⟨z, by exact many_put3 (HOK.out _) (by rw [HVL.out]; rfl) hL, hph⟩
      go_simp
    · skip
      have y24 : L 24 = true := up_at hu 24 (by kernel_rfl)
      have e19 : (many gg_ L (VL z))[19]?.getD undef = .slice (some ⟨g5, o5, none⟩) bl C5 := many_out3 hgN (HOK.out z) (by rw [HVL.out]; rfl) hF19
      have e160 : (many gg_ L (VL z))[160]?.getD undef = .bool false := many_eval3 hgN (HOK.out z) (by rw [HVL.out]; rfl) y24
      refine opIn_run_g (v := .slice (some ⟨g5, o5, none⟩) bl C5) (w' := w') (j := 24) (b := false) rfl rfl (by simp [yielded, many_some hgN (show 160 < 254 by decide) e160]) (fun c h => by cases h) (fun _ => trivial) ?_ ⟨z, by exact many_put3 (HOK.out _) (by rw [HVL.out]; rfl) hL, hph⟩
      go_simp
    · skip
      have y24 : L 24 = true := up_at hu 24 (by kernel_rfl)
      have e21 : (many gg_ L (VL z))[21]?.getD undef = .int .i64 (i : Int) := many_out3 hgN (HOK.out z) (by rw [HVL.out]; rfl) hF21
      have e160 : (many gg_ L (VL z))[160]?.getD undef = .bool false := many_eval3 hgN (HOK.out z) (by rw [HVL.out]; rfl) y24
      refine opIn_run_g (v := .int .i64 (i : Int)) (w' := w') (j := 24) (b := false) rfl rfl (by simp [yielded, many_some hgN (show 160 < 254 by decide) e160]) (fun c h => by cases h) (fun _ => trivial) ?_ ⟨z, by exact many_put3 (HOK.out _) (by rw [HVL.out]; rfl) hL, hph⟩
      go_simp
    · skip
      have y24 : L 24 = true := up_at hu 24 (by kernel_rfl)
      have y32 : L 32 = true := up_at hu 32 (by kernel_rfl)
      have y33 : L 33 = true := up_at hu 33 (by kernel_rfl)
      have e160 : (many gg_ L (VL z))[160]?.getD undef = .bool false := many_eval3 hgN (HOK.out z) (by rw [HVL.out]; rfl) y24
      have e168 : (many gg_ L (VL z))[168]?.getD undef = .slice (some ⟨g5, o5, none⟩) bl C5 := many_eval3 hgN (HOK.out z) (by rw [HVL.out]; rfl) y32
      have e169 : (many gg_ L (VL z))[169]?.getD undef = .int .i64 (i : Int) := many_eval3 hgN (HOK.out z) (by rw [HVL.out]; rfl) y33
      refine opIn_run_g (v := .pointer (some ⟨g5, o5 + i * 4, none⟩)) (w' := w') (j := 24) (b := false) rfl rfl (by simp [yielded, many_some hgN (show 160 < 254 by decide) e160]) (fun c h => by cases h) (fun _ => trivial) ?_ ⟨z, by exact many_put3 (HOK.out _) (by rw [HVL.out]; rfl) hL, hph⟩
      go_simp
    · skip
      have y24 : L 24 = true := up_at hu 24 (by kernel_rfl)
      have y34 : L 34 = true := up_at hu 34 (by kernel_rfl)
      have e160 : (many gg_ L (VL z))[160]?.getD undef = .bool false := many_eval3 hgN (HOK.out z) (by rw [HVL.out]; rfl) y24
      have e170 : (many gg_ L (VL z))[170]?.getD undef = .pointer (some ⟨g5, o5 + i * 4, none⟩) := many_eval3 hgN (HOK.out z) (by rw [HVL.out]; rfl) y34
      refine opIn_run_g (v := .pointer (some ⟨g5, o5 + i * 4 + 3, none⟩)) (w' := w') (j := 24) (b := false) rfl rfl (by simp [yielded, many_some hgN (show 160 < 254 by decide) e160]) (fun c h => by cases h) (fun _ => trivial) ?_ ⟨z, by exact many_put3 (HOK.out _) (by rw [HVL.out]; rfl) hL, hph⟩
      go_simp
    · skip
      have y24 : L 24 = true := up_at hu 24 (by kernel_rfl)
      have y35 : L 35 = true := up_at hu 35 (by kernel_rfl)
      have hcell : w'.cell? ⟨g5, o5 + i * 4 + 3, none⟩ = some (.int .i64 c3) := (hph.cell (p := ⟨g5, o5 + i * 4 + 3, none⟩) HCE.out.1).trans HCE.out.2.2.2.2
      have e160 : (many gg_ L (VL z))[160]?.getD undef = .bool false := many_eval3 hgN (HOK.out z) (by rw [HVL.out]; rfl) y24
      have e171 : (many gg_ L (VL z))[171]?.getD undef = .pointer (some ⟨g5, o5 + i * 4 + 3, none⟩) := many_eval3 hgN (HOK.out z) (by rw [HVL.out]; rfl) y35
      refine opIn_run_g (v := .int .i64 c3) (w' := w') (j := 24) (b := false) rfl rfl (by simp [yielded, many_some hgN (show 160 < 254 by decide) e160]) (fun c h => by cases h) (fun _ => trivial) ?_ ⟨z, by exact many_put3 (HOK.out _) (by rw [HVL.out]; rfl) hL, hph⟩
      go_simp
    · skip
      have y24 : L 24 = true := up_at hu 24 (by kernel_rfl)
      have y36 : L 36 = true := up_at hu 36 (by kernel_rfl)
      have q := HDQ.out.2.2.2.2.2
      have e160 : (many gg_ L (VL z))[160]?.getD undef = .bool false := many_eval3 hgN (HOK.out z) (by rw [HVL.out]; rfl) y24
      have e172 : (many gg_ L (VL z))[172]?.getD undef = .int .i64 c3 := many_eval3 hgN (HOK.out z) (by rw [HVL.out]; rfl) y36
      refine opIn_run_g (v := .int .i64 (c3 - 1)) (w' := w') (j := 24) (b := false) rfl rfl (by simp [yielded, many_some hgN (show 160 < 254 by decide) e160]) (fun c h => by cases h) (fun _ => trivial) ?_ ⟨z, by exact many_put3 (HOK.out _) (by rw [HVL.out]; rfl) hL, hph⟩
      go_simp
    · skip
      have y24 : L 24 = true := up_at hu 24 (by kernel_rfl)
      have e17 : (many gg_ L (VL z))[17]?.getD undef = .int .i64 y := many_out3 hgN (HOK.out z) (by rw [HVL.out]; rfl) hF17
      have e160 : (many gg_ L (VL z))[160]?.getD undef = .bool false := many_eval3 hgN (HOK.out z) (by rw [HVL.out]; rfl) y24
      refine opIn_run_g (v := .int .i64 y) (w' := w') (j := 24) (b := false) rfl rfl (by simp [yielded, many_some hgN (show 160 < 254 by decide) e160]) (fun c h => by cases h) (fun _ => trivial) ?_ ⟨z, by exact many_put3 (HOK.out _) (by rw [HVL.out]; rfl) hL, hph⟩
      go_simp
    · skip
      have y24 : L 24 = true := up_at hu 24 (by kernel_rfl)
      have y37 : L 37 = true := up_at hu 37 (by kernel_rfl)
      have y38 : L 38 = true := up_at hu 38 (by kernel_rfl)
      have q := HDQ.out.2.2.2.1
      have e160 : (many gg_ L (VL z))[160]?.getD undef = .bool false := many_eval3 hgN (HOK.out z) (by rw [HVL.out]; rfl) y24
      have e173 : (many gg_ L (VL z))[173]?.getD undef = .int .i64 (c3 - 1) := many_eval3 hgN (HOK.out z) (by rw [HVL.out]; rfl) y37
      have e174 : (many gg_ L (VL z))[174]?.getD undef = .int .i64 y := many_eval3 hgN (HOK.out z) (by rw [HVL.out]; rfl) y38
      refine opIn_run_g (v := .int .i64 d1) (w' := w') (j := 24) (b := false) rfl rfl (by simp [yielded, many_some hgN (show 160 < 254 by decide) e160]) (fun c h => by cases h) (fun _ => trivial) ?_ ⟨z, by exact many_put3 (HOK.out _) (by rw [HVL.out]; rfl) hL, hph⟩
      go_simp
    · skip
      have y24 : L 24 = true := up_at hu 24 (by kernel_rfl)
      have y31 : L 31 = true := up_at hu 31 (by kernel_rfl)
      have y39 : L 39 = true := up_at hu 39 (by kernel_rfl)
      have e160 : (many gg_ L (VL z))[160]?.getD undef = .bool false := many_eval3 hgN (HOK.out z) (by rw [HVL.out]; rfl) y24
      have e167 : (many gg_ L (VL z))[167]?.getD undef = .int .i64 d1 := many_eval3 hgN (HOK.out z) (by rw [HVL.out]; rfl) y31
      have e175 : (many gg_ L (VL z))[175]?.getD undef = .int .i64 d1 := many_eval3 hgN (HOK.out z) (by rw [HVL.out]; rfl) y39
      refine opIn_run_g (v := .bool false) (w' := w') (j := 24) (b := false) rfl rfl (by simp [yielded, many_some hgN (show 160 < 254 by decide) e160]) (fun c h => by cases h) (fun _ => trivial) ?_ ⟨z, by exact many_put3 (HOK.out _) (by rw [HVL.out]; rfl) hL, hph⟩
      go_simp
    · skip
      have y24 : L 24 = true := up_at hu 24 (by kernel_rfl)
      have y40 : L 40 = true := up_at hu 40 (by kernel_rfl)
      have e160 : (many gg_ L (VL z))[160]?.getD undef = .bool false := many_eval3 hgN (HOK.out z) (by rw [HVL.out]; rfl) y24
      have e176 : (many gg_ L (VL z))[176]?.getD undef = .bool false := many_eval3 hgN (HOK.out z) (by rw [HVL.out]; rfl) y40
      refine opIn_run (v := .bool false) (w' := w') rfl rfl (fun c h => by cases h) (fun _ => trivial) ?_ ⟨z, by exact many_put3 (HOK.out _) (by rw [HVL.out]; rfl) hL, hph⟩
      go_simp
  case fin =>
    intro L z w' hall hph
    rw [HVL.out]
    exact hQ _ hph
set_option maxHeartbeats 8000000 in
theorem cbReg24b (g5 o5 bl C5 i j1 j2 md : Nat) (bwd c0 c1 : Int) (W6 : World) (hiI : (i : Int) < (bl : Int) ∧ (0 : Int) ≤ (i : Int)) (i1 : (0 : Int) < (i : Int)) (i1n : 0 < i) (HMD : Hid ((i : Int).tmod bwd = (md : Int))) (bw0 : ¬ bwd = 0) (HMD0 : Hid (md = 0)) (w1 : bwd ≤ (i : Int)) (HW6 : Hid (g5 < W6.heap.size)) (x0' : W6.cell? ⟨g5, o5 + i * 4, none⟩ = some (.int .i64 c0)) (x1' : W6.cell? ⟨g5, o5 + i * 4 + 1, none⟩ = some (.int .i64 c1)) (bu1 : (j2 : Int) < (bl : Int) ∧ (0 : Int) ≤ (j2 : Int)) (HWU : Hid (IntKind.i64.wrap ((i : Int) - bwd) = (j2 : Int))) (q3' : W6.cell? ⟨g5, o5 + j2 * 4 + 3, none⟩ = some (.int .i64 c1)) (fl : List Value) (hfl : fl.length = 254) (hf19 : fl.getD 19 undef = .slice (some ⟨g5, o5, none⟩) bl C5) (hf20 : fl.getD 20 undef = .int .i64 bwd) (hf21 : fl.getD 21 undef = .int .i64 (i : Int)) {Q : Exit → Act → World → Prop} (hQ : ∀ w', Below W6.heap.size W6 w' → Q .normal ⟨(manyL fl [(0, 178, .int .i64 (i : Int)), (1, 179, .bool true), (2, 180, .bool true), (3, 181, .int .i64 (i : Int)), (4, 182, .int .i64 bwd), (5, 183, .int .i64 (md : Int)), (6, 184, .bool false), (7, 185, .bool false), (8, 186, .bool false), (9, 187, undef), (10, 188, undef), (11, 189, undef), (12, 190, undef), (13, 191, undef), (14, 192, undef), (15, 193, undef), (16, 194, undef), (17, 195, undef), (18, 196, undef), (19, 197, undef), (20, 198, undef), (21, 199, undef), (22, 200, undef), (23, 201, undef), (24, 202, undef), (25, 203, undef), (26, 204, undef), (27, 205, undef), (28, 206, undef), (29, 207, undef), (30, 208, undef), (31, 209, undef), (32, 210, undef), (33, 211, undef), (34, 212, undef), (35, 213, .bool false), (36, 214, .bool false), (37, 215, .int .i64 (i : Int)), (38, 216, .int .i64 bwd), (39, 217, .bool true), (40, 218, .bool true), (41, 219, .slice (some ⟨g5, o5, none⟩) bl C5), (42, 220, .int .i64 (i : Int)), (43, 221, .pointer (some ⟨g5, o5 + i * 4, none⟩)), (44, 222, .pointer (some ⟨g5, o5 + i * 4 + 1, none⟩)), (45, 223, .int .i64 c1), (46, 224, .slice (some ⟨g5, o5, none⟩) bl C5), (47, 225, .int .i64 (i : Int)), (48, 226, .int .i64 bwd), (49, 227, .int .i64 (j2 : Int)), (50, 228, .pointer (some ⟨g5, o5 + j2 * 4, none⟩)), (51, 229, .pointer (some ⟨g5, o5 + j2 * 4 + 3, none⟩)), (52, 230, .int .i64 c1), (53, 231, .bool false), (54, 232, .bool false), (55, 233, .bool false)]).toArray, []⟩ w') :
    (Code.region 24 (regOps Try.f9 24) true).wp Try.prog Q ⟨fl.toArray, []⟩ W6 := by
  obtain ⟨o_, ho_⟩ : ∃ o, regOps Try.f9 24 = o := ⟨_, rfl⟩
  rw [ho_]
  conv at ho_ => lhs; whnf
  subst ho_
  obtain ⟨VL, hVL⟩ : ∃ VL : Unit → List (Nat × Nat × Value), VL = fun z => [(0, 178, .int .i64 (i : Int)), (1, 179, .bool true), (2, 180, .bool true), (3, 181, .int .i64 (i : Int)), (4, 182, .int .i64 bwd), (5, 183, .int .i64 (md : Int)), (6, 184, .bool false), (7, 185, .bool false), (8, 186, .bool false), (9, 187, undef), (10, 188, undef), (11, 189, undef), (12, 190, undef), (13, 191, undef), (14, 192, undef), (15, 193, undef), (16, 194, undef), (17, 195, undef), (18, 196, undef), (19, 197, undef), (20, 198, undef), (21, 199, undef), (22, 200, undef), (23, 201, undef), (24, 202, undef), (25, 203, undef), (26, 204, undef), (27, 205, undef), (28, 206, undef), (29, 207, undef), (30, 208, undef), (31, 209, undef), (32, 210, undef), (33, 211, undef), (34, 212, undef), (35, 213, .bool false), (36, 214, .bool false), (37, 215, .int .i64 (i : Int)), (38, 216, .int .i64 bwd), (39, 217, .bool true), (40, 218, .bool true), (41, 219, .slice (some ⟨g5, o5, none⟩) bl C5), (42, 220, .int .i64 (i : Int)), (43, 221, .pointer (some ⟨g5, o5 + i * 4, none⟩)), (44, 222, .pointer (some ⟨g5, o5 + i * 4 + 1, none⟩)), (45, 223, .int .i64 c1), (46, 224, .slice (some ⟨g5, o5, none⟩) bl C5), (47, 225, .int .i64 (i : Int)), (48, 226, .int .i64 bwd), (49, 227, .int .i64 (j2 : Int)), (50, 228, .pointer (some ⟨g5, o5 + j2 * 4, none⟩)), (51, 229, .pointer (some ⟨g5, o5 + j2 * 4 + 3, none⟩)), (52, 230, .int .i64 c1), (53, 231, .bool false), (54, 232, .bool false), (55, 233, .bool false)] := ⟨_, rfl⟩
  have hok : ∀ z, manyOk 254 (VL z) := fun z => by rw [hVL]; exact okB_ok rfl
  have HVL := Lib.hid hVL
  have hvi : ∀ z, ∀ x ∈ VL z, x.1 < 56 := fun z => by rw [hVL]; exact ltB_ok rfl
  have HOK := Lib.hid hok
  have HVI := Lib.hid hvi
  clear hVL hok hvi
  refine (wpIn_wide (n := 9)).1 (regionIn_many (N := 254) (w := W6) VL (fun L z w' => Below W6.heap.size W6 w') [(19, .slice (some ⟨g5, o5, none⟩) bl C5), (20, .int .i64 bwd), (21, .int .i64 (i : Int))] (by kernel_rfl) (by kernel_rfl) hfl (by simp only [List.forall_mem_cons, List.not_mem_nil, false_imp_iff, implies_true, and_true]; exact ⟨hf19, hf20, hf21⟩) HVI.out () ?start ?step ?fin)
  case start => exact (Below.refl _ _).drew
  case step =>
    intro gg_ hgN hgF ii_ hii_ L z w' hph hs hu
    have hF19 := hgF (19, .slice (some ⟨g5, o5, none⟩) bl C5) (by simp)
    have hF20 := hgF (20, .int .i64 bwd) (by simp)
    have hF21 := hgF (21, .int .i64 (i : Int)) (by simp)
    have hL := hu.1
    have hii_ : ii_ < 56 := hii_
    clear hgF
    obtain rfl | rfl | rfl | rfl | rfl | rfl | rfl | rfl | rfl | rfl | rfl | rfl | rfl | rfl | rfl | rfl | rfl | rfl | rfl | rfl | rfl | rfl | rfl | rfl | rfl | rfl | rfl | rfl | rfl | rfl | rfl | rfl | rfl | rfl | rfl | rfl | rfl | rfl | rfl | rfl | rfl | rfl | rfl | rfl | rfl | rfl | rfl | rfl | rfl | rfl | rfl | rfl | rfl | rfl | rfl | rfl := (by omega : ii_ = 0 ∨ ii_ = 1 ∨ ii_ = 2 ∨ ii_ = 3 ∨ ii_ = 4 ∨ ii_ = 5 ∨ ii_ = 6 ∨ ii_ = 7 ∨ ii_ = 8 ∨ ii_ = 9 ∨ ii_ = 10 ∨ ii_ = 11 ∨ ii_ = 12 ∨ ii_ = 13 ∨ ii_ = 14 ∨ ii_ = 15 ∨ ii_ = 16 ∨ ii_ = 17 ∨ ii_ = 18 ∨ ii_ = 19 ∨ ii_ = 20 ∨ ii_ = 21 ∨ ii_ = 22 ∨ ii_ = 23 ∨ ii_ = 24 ∨ ii_ = 25 ∨ ii_ = 26 ∨ ii_ = 27 ∨ ii_ = 28 ∨ ii_ = 29 ∨ ii_ = 30 ∨ ii_ = 31 ∨ ii_ = 32 ∨ ii_ = 33 ∨ ii_ = 34 ∨ ii_ = 35 ∨ ii_ = 36 ∨ ii_ = 37 ∨ ii_ = 38 ∨ ii_ = 39 ∨ ii_ = 40 ∨ ii_ = 41 ∨ ii_ = 42 ∨ ii_ = 43 ∨ ii_ = 44 ∨ ii_ = 45 ∨ ii_ = 46 ∨ ii_ = 47 ∨ ii_ = 48 ∨ ii_ = 49 ∨ ii_ = 50 ∨ ii_ = 51 ∨ ii_ = 52 ∨ ii_ = 53 ∨ ii_ = 54 ∨ ii_ = 55)
    · skip
      have e21 : (many gg_ L (VL z))[21]?.getD undef = .int .i64 (i : Int) := many_out3 hgN (HOK.out z) (by rw [HVL.out]; rfl) hF21
      refine opIn_run (v := .int .i64 (i : Int)) (w' := w') rfl rfl (fun c h => by cases h) (fun _ => trivial) ?_ ⟨z, by exact many_put3 (HOK.out _) (by rw [HVL.out]; rfl) hL, hph⟩
      go_simp
    · skip
      have y0 : L 0 = true := up_at hu 0 (by kernel_rfl)
      have e178 : (many gg_ L (VL z))[178]?.getD undef = .int .i64 (i : Int) := many_eval3 hgN (HOK.out z) (by rw [HVL.out]; rfl) y0
      refine opIn_run (v := .bool true) (w' := w') rfl rfl (fun c h => by cases h) (fun _ => trivial) ?_ ⟨z, by exact many_put3 (HOK.out _) (by rw [HVL.out]; rfl) hL, hph⟩
      go_simp
    · skip
      have y1 : L 1 = true := up_at hu 1 (by kernel_rfl)
      have e179 : (many gg_ L (VL z))[179]?.getD undef = .bool true := many_eval3 hgN (HOK.out z) (by rw [HVL.out]; rfl) y1
      refine opIn_run (v := .bool true) (w' := w') rfl rfl (fun c h => by cases h) (fun _ => trivial) ?_ ⟨z, by exact many_put3 (HOK.out _) (by rw [HVL.out]; rfl) hL, hph⟩
      go_simp
    · skip
      have y2 : L 2 = true := up_at hu 2 (by kernel_rfl)
      have e21 : (many gg_ L (VL z))[21]?.getD undef = .int .i64 (i : Int) := many_out3 hgN (HOK.out z) (by rw [HVL.out]; rfl) hF21
      have e180 : (many gg_ L (VL z))[180]?.getD undef = .bool true := many_eval3 hgN (HOK.out z) (by rw [HVL.out]; rfl) y2
      refine opIn_run_g (v := .int .i64 (i : Int)) (w' := w') (j := 2) (b := true) rfl rfl (by simp [yielded, many_some hgN (show 180 < 254 by decide) e180]) (fun c h => by cases h) (fun _ => trivial) ?_ ⟨z, by exact many_put3 (HOK.out _) (by rw [HVL.out]; rfl) hL, hph⟩
      go_simp
    · skip
      have y2 : L 2 = true := up_at hu 2 (by kernel_rfl)
      have e20 : (many gg_ L (VL z))[20]?.getD undef = .int .i64 bwd := many_out3 hgN (HOK.out z) (by rw [HVL.out]; rfl) hF20
      have e180 : (many gg_ L (VL z))[180]?.getD undef = .bool true := many_eval3 hgN (HOK.out z) (by rw [HVL.out]; rfl) y2
      refine opIn_run_g (v := .int .i64 bwd) (w' := w') (j := 2) (b := true) rfl rfl (by simp [yielded, many_some hgN (show 180 < 254 by decide) e180]) (fun c h => by cases h) (fun _ => trivial) ?_ ⟨z, by exact many_put3 (HOK.out _) (by rw [HVL.out]; rfl) hL, hph⟩
      go_simp
    · skip
      have y2 : L 2 = true := up_at hu 2 (by kernel_rfl)
      have y3 : L 3 = true := up_at hu 3 (by kernel_rfl)
      have y4 : L 4 = true := up_at hu 4 (by kernel_rfl)
      have e180 : (many gg_ L (VL z))[180]?.getD undef = .bool true := many_eval3 hgN (HOK.out z) (by rw [HVL.out]; rfl) y2
      have e181 : (many gg_ L (VL z))[181]?.getD undef = .int .i64 (i : Int) := many_eval3 hgN (HOK.out z) (by rw [HVL.out]; rfl) y3
      have e182 : (many gg_ L (VL z))[182]?.getD undef = .int .i64 bwd := many_eval3 hgN (HOK.out z) (by rw [HVL.out]; rfl) y4
      refine opIn_run_g (v := .int .i64 (md : Int)) (w' := w') (j := 2) (b := true) rfl rfl (by simp [yielded, many_some hgN (show 180 < 254 by decide) e180]) (fun c h => by cases h) (fun _ => trivial) ?_ ⟨z, by exact many_put3 (HOK.out _) (by rw [HVL.out]; rfl) hL, hph⟩
      go_simp
      exact HMD.out
    · skip
      have y2 : L 2 = true := up_at hu 2 (by kernel_rfl)
      have y5 : L 5 = true := up_at hu 5 (by kernel_rfl)
      have q := HMD0.out
      have e180 : (many gg_ L (VL z))[180]?.getD undef = .bool true := many_eval3 hgN (HOK.out z) (by rw [HVL.out]; rfl) y2
      have e183 : (many gg_ L (VL z))[183]?.getD undef = .int .i64 (md : Int) := many_eval3 hgN (HOK.out z) (by rw [HVL.out]; rfl) y5
      refine opIn_run_g (v := .bool false) (w' := w') (j := 2) (b := true) rfl rfl (by simp [yielded, many_some hgN (show 180 < 254 by decide) e180]) (fun c h => by cases h) (fun _ => trivial) ?_ ⟨z, by exact many_put3 (HOK.out _) (by rw [HVL.out]; rfl) hL, hph⟩
      go_simp
    · skip
      have y2 : L 2 = true := up_at hu 2 (by kernel_rfl)
      have y6 : L 6 = true := up_at hu 6 (by kernel_rfl)
      have e180 : (many gg_ L (VL z))[180]?.getD undef = .bool true := many_eval3 hgN (HOK.out z) (by rw [HVL.out]; rfl) y2
      have e184 : (many gg_ L (VL z))[184]?.getD undef = .bool false := many_eval3 hgN (HOK.out z) (by rw [HVL.out]; rfl) y6
      refine opIn_run (v := .bool false) (w' := w') rfl rfl (fun c h => by cases h) (fun _ => trivial) ?_ ⟨z, by exact many_put3 (HOK.out _) (by rw [HVL.out]; rfl) hL, hph⟩
      go_simp
    · skip
      have y2 : L 2 = true := up_at hu 2 (by kernel_rfl)
      have y7 : L 7 = true := up_at hu 7 (by kernel_rfl)
      have e185 : (many gg_ L (VL z))[185]?.getD undef = .bool false := many_eval3 hgN (HOK.out z) (by rw [HVL.out]; rfl) y7
      refine opIn_run (v := .bool false) (w' := w') rfl rfl (fun c h => by cases h) (fun _ => trivial) ?_ ⟨z, by exact many_put3 (HOK.out _) (by rw [HVL.out]; rfl) hL, hph⟩
      go_simp
    · skip
      have y8 : L 8 = true := up_at hu 8 (by kernel_rfl)
      have e19 : (many gg_ L (VL z))[19]?.getD undef = .slice (some ⟨g5, o5, none⟩) bl C5 := many_out3 hgN (HOK.out z) (by rw [HVL.out]; rfl) hF19
      have e186 : (many gg_ L (VL z))[186]?.getD undef = .bool false := many_eval3 hgN (HOK.out z) (by rw [HVL.out]; rfl) y8
      exact opIn_not_g (j := 8) (b := true) (c := false) rfl rfl (by simp [yielded, many_some hgN (show 186 < 254 by decide) e186]) (by decide) (fun _ => trivial) ⟨z, by exact many_put3 (HOK.out _) (by rw [HVL.out]; rfl) hL, hph⟩
    · skip
      have y8 : L 8 = true := up_at hu 8 (by kernel_rfl)
      have e21 : (many gg_ L (VL z))[21]?.getD undef = .int .i64 (i : Int) := many_out3 hgN (HOK.out z) (by rw [HVL.out]; rfl) hF21
      have e186 : (many gg_ L (VL z))[186]?.getD undef = .bool false := many_eval3 hgN (HOK.out z) (by rw [HVL.out]; rfl) y8
      exact opIn_not_g (j := 8) (b := true) (c := false) rfl rfl (by simp [yielded, many_some hgN (show 186 < 254 by decide) e186]) (by decide) (fun _ => trivial) ⟨z, by exact many_put3 (HOK.out _) (by rw [HVL.out]; rfl) hL, hph⟩
    · skip
      have y8 : L 8 = true := up_at hu 8 (by kernel_rfl)
      have y9 : L 9 = true := up_at hu 9 (by kernel_rfl)
      have y10 : L 10 = true := up_at hu 10 (by kernel_rfl)
      have e186 : (many gg_ L (VL z))[186]?.getD undef = .bool false := many_eval3 hgN (HOK.out z) (by rw [HVL.out]; rfl) y8
      have e187 : (many gg_ L (VL z))[187]?.getD undef = undef := many_eval3 hgN (HOK.out z) (by rw [HVL.out]; rfl) y9
      have e188 : (many gg_ L (VL z))[188]?.getD undef = undef := many_eval3 hgN (HOK.out z) (by rw [HVL.out]; rfl) y10
      exact opIn_not_g (j := 8) (b := true) (c := false) rfl rfl (by simp [yielded, many_some hgN (show 186 < 254 by decide) e186]) (by decide) (fun _ => trivial) ⟨z, by exact many_put3 (HOK.out _) (by rw [HVL.out]; rfl) hL, hph⟩
    · skip
      have y8 : L 8 = true := up_at hu 8 (by kernel_rfl)
      have y11 : L 11 = true := up_at hu 11 (by kernel_rfl)
      have e186 : (many gg_ L (VL z))[186]?.getD undef = .bool false := many_eval3 hgN (HOK.out z) (by rw [HVL.out]; rfl) y8
      have e189 : (many gg_ L (VL z))[189]?.getD undef = undef := many_eval3 hgN (HOK.out z) (by rw [HVL.out]; rfl) y11
      exact opIn_not_g (j := 8) (b := true) (c := false) rfl rfl (by simp [yielded, many_some hgN (show 186 < 254 by decide) e186]) (by decide) (fun _ => trivial) ⟨z, by exact many_put3 (HOK.out _) (by rw [HVL.out]; rfl) hL, hph⟩
    · skip
      have y8 : L 8 = true := up_at hu 8 (by kernel_rfl)
      have y12 : L 12 = true := up_at hu 12 (by kernel_rfl)
      have e186 : (many gg_ L (VL z))[186]?.getD undef = .bool false := many_eval3 hgN (HOK.out z) (by rw [HVL.out]; rfl) y8
      have e190 : (many gg_ L (VL z))[190]?.getD undef = undef := many_eval3 hgN (HOK.out z) (by rw [HVL.out]; rfl) y12
      exact opIn_not_g (j := 8) (b := true) (c := false) rfl rfl (by simp [yielded, many_some hgN (show 186 < 254 by decide) e186]) (by decide) (fun _ => trivial) ⟨z, by exact many_put3 (HOK.out _) (by rw [HVL.out]; rfl) hL, hph⟩
    · skip
      have y8 : L 8 = true := up_at hu 8 (by kernel_rfl)
      have e19 : (many gg_ L (VL z))[19]?.getD undef = .slice (some ⟨g5, o5, none⟩) bl C5 := many_out3 hgN (HOK.out z) (by rw [HVL.out]; rfl) hF19
      have e186 : (many gg_ L (VL z))[186]?.getD undef = .bool false := many_eval3 hgN (HOK.out z) (by rw [HVL.out]; rfl) y8
      exact opIn_not_g (j := 8) (b := true) (c := false) rfl rfl (by simp [yielded, many_some hgN (show 186 < 254 by decide) e186]) (by decide) (fun _ => trivial) ⟨z, by exact many_put3 (HOK.out _) (by rw [HVL.out]; rfl) hL, hph⟩
    · skip
      have y8 : L 8 = true := up_at hu 8 (by kernel_rfl)
      have e21 : (many gg_ L (VL z))[21]?.getD undef = .int .i64 (i : Int) := many_out3 hgN (HOK.out z) (by rw [HVL.out]; rfl) hF21
      have e186 : (many gg_ L (VL z))[186]?.getD undef = .bool false := many_eval3 hgN (HOK.out z) (by rw [HVL.out]; rfl) y8
      exact opIn_not_g (j := 8) (b := true) (c := false) rfl rfl (by simp [yielded, many_some hgN (show 186 < 254 by decide) e186]) (by decide) (fun _ => trivial) ⟨z, by exact many_put3 (HOK.out _) (by rw [HVL.out]; rfl) hL, hph⟩
    · skip
      have y8 : L 8 = true := up_at hu 8 (by kernel_rfl)
      have y15 : L 15 = true := up_at hu 15 (by kernel_rfl)
      have e186 : (many gg_ L (VL z))[186]?.getD undef = .bool false := many_eval3 hgN (HOK.out z) (by rw [HVL.out]; rfl) y8
      have e193 : (many gg_ L (VL z))[193]?.getD undef = undef := many_eval3 hgN (HOK.out z) (by rw [HVL.out]; rfl) y15
      exact opIn_not_g (j := 8) (b := true) (c := false) rfl rfl (by simp [yielded, many_some hgN (show 186 < 254 by decide) e186]) (by decide) (fun _ => trivial) ⟨z, by exact many_put3 (HOK.out _) (by rw [HVL.out]; rfl) hL, hph⟩
    · skip
      have y8 : L 8 = true := up_at hu 8 (by kernel_rfl)
      have y14 : L 14 = true := up_at hu 14 (by kernel_rfl)
      have y16 : L 16 = true := up_at hu 16 (by kernel_rfl)
      have e186 : (many gg_ L (VL z))[186]?.getD undef = .bool false := many_eval3 hgN (HOK.out z) (by rw [HVL.out]; rfl) y8
      have e192 : (many gg_ L (VL z))[192]?.getD undef = undef := many_eval3 hgN (HOK.out z) (by rw [HVL.out]; rfl) y14
      have e194 : (many gg_ L (VL z))[194]?.getD undef = undef := many_eval3 hgN (HOK.out z) (by rw [HVL.out]; rfl) y16
      exact opIn_not_g (j := 8) (b := true) (c := false) rfl rfl (by simp [yielded, many_some hgN (show 186 < 254 by decide) e186]) (by decide) (fun _ => trivial) ⟨z, by exact many_put3 (HOK.out _) (by rw [HVL.out]; rfl) hL, hph⟩
    · skip
      have y8 : L 8 = true := up_at hu 8 (by kernel_rfl)
      have y17 : L 17 = true := up_at hu 17 (by kernel_rfl)
      have e186 : (many gg_ L (VL z))[186]?.getD undef = .bool false := many_eval3 hgN (HOK.out z) (by rw [HVL.out]; rfl) y8
      have e195 : (many gg_ L (VL z))[195]?.getD undef = undef := many_eval3 hgN (HOK.out z) (by rw [HVL.out]; rfl) y17
      exact opIn_not_g (j := 8) (b := true) (c := false) rfl rfl (by simp [yielded, many_some hgN (show 186 < 254 by decide) e186]) (by decide) (fun _ => trivial) ⟨z, by exact many_put3 (HOK.out _) (by rw [HVL.out]; rfl) hL, hph⟩
    · skip
      have y8 : L 8 = true := up_at hu 8 (by kernel_rfl)
      have y18 : L 18 = true := up_at hu 18 (by kernel_rfl)
      have e186 : (many gg_ L (VL z))[186]?.getD undef = .bool false := many_eval3 hgN (HOK.out z) (by rw [HVL.out]; rfl) y8
      have e196 : (many gg_ L (VL z))[196]?.getD undef = undef := many_eval3 hgN (HOK.out z) (by rw [HVL.out]; rfl) y18
      exact opIn_not_g (j := 8) (b := true) (c := false) rfl rfl (by simp [yielded, many_some hgN (show 186 < 254 by decide) e186]) (by decide) (fun _ => trivial) ⟨z, by exact many_put3 (HOK.out _) (by rw [HVL.out]; rfl) hL, hph⟩
    · skip
      have y8 : L 8 = true := up_at hu 8 (by kernel_rfl)
      have y13 : L 13 = true := up_at hu 13 (by kernel_rfl)
      have y19 : L 19 = true := up_at hu 19 (by kernel_rfl)
      have e186 : (many gg_ L (VL z))[186]?.getD undef = .bool false := many_eval3 hgN (HOK.out z) (by rw [HVL.out]; rfl) y8
      have e191 : (many gg_ L (VL z))[191]?.getD undef = undef := many_eval3 hgN (HOK.out z) (by rw [HVL.out]; rfl) y13
      have e197 : (many gg_ L (VL z))[197]?.getD undef = undef := many_eval3 hgN (HOK.out z) (by rw [HVL.out]; rfl) y19
      exact opIn_not_g (j := 8) (b := true) (c := false) rfl rfl (by simp [yielded, many_some hgN (show 186 < 254 by decide) e186]) (by decide) (fun _ => trivial) ⟨z, by exact many_put3 (HOK.out _) (by rw [HVL.out]; rfl) hL, hph⟩
    · skip
      have y8 : L 8 = true := up_at hu 8 (by kernel_rfl)
      have y20 : L 20 = true := up_at hu 20 (by kernel_rfl)
      have e186 : (many gg_ L (VL z))[186]?.getD undef = .bool false := many_eval3 hgN (HOK.out z) (by rw [HVL.out]; rfl) y8
      have e198 : (many gg_ L (VL z))[198]?.getD undef = undef := many_eval3 hgN (HOK.out z) (by rw [HVL.out]; rfl) y20
      exact opIn_not_g (j := 8) (b := true) (c := false) rfl rfl (by simp [yielded, many_some hgN (show 186 < 254 by decide) e186]) (by decide) (fun _ => trivial) ⟨z, by exact many_put3 (HOK.out _) (by rw [HVL.out]; rfl) hL, hph⟩
    · skip
      have y21 : L 21 = true := up_at hu 21 (by kernel_rfl)
      have e19 : (many gg_ L (VL z))[19]?.getD undef = .slice (some ⟨g5, o5, none⟩) bl C5 := many_out3 hgN (HOK.out z) (by rw [HVL.out]; rfl) hF19
      have e199 : (many gg_ L (VL z))[199]?.getD undef = undef := many_eval3 hgN (HOK.out z) (by rw [HVL.out]; rfl) y21
      exact opIn_not_u (j := 21) (b := false) rfl rfl (by simp [yielded, undef, many_some hgN (show 199 < 254 by decide) e199]) (fun _ => trivial) ⟨z, by exact many_put3 (HOK.out _) (by rw [HVL.out]; rfl) hL, hph⟩
    · skip
      have y21 : L 21 = true := up_at hu 21 (by kernel_rfl)
      have e21 : (many gg_ L (VL z))[21]?.getD undef = .int .i64 (i : Int) := many_out3 hgN (HOK.out z) (by rw [HVL.out]; rfl) hF21
      have e199 : (many gg_ L (VL z))[199]?.getD undef = undef := many_eval3 hgN (HOK.out z) (by rw [HVL.out]; rfl) y21
      exact opIn_not_u (j := 21) (b := false) rfl rfl (by simp [yielded, undef, many_some hgN (show 199 < 254 by decide) e199]) (fun _ => trivial) ⟨z, by exact many_put3 (HOK.out _) (by rw [HVL.out]; rfl) hL, hph⟩
    · skip
      have y21 : L 21 = true := up_at hu 21 (by kernel_rfl)
      have y22 : L 22 = true := up_at hu 22 (by kernel_rfl)
      have y23 : L 23 = true := up_at hu 23 (by kernel_rfl)
      have e199 : (many gg_ L (VL z))[199]?.getD undef = undef := many_eval3 hgN (HOK.out z) (by rw [HVL.out]; rfl) y21
      have e200 : (many gg_ L (VL z))[200]?.getD undef = undef := many_eval3 hgN (HOK.out z) (by rw [HVL.out]; rfl) y22
      have e201 : (many gg_ L (VL z))[201]?.getD undef = undef := many_eval3 hgN (HOK.out z) (by rw [HVL.out]; rfl) y23
      exact opIn_not_u (j := 21) (b := false) rfl rfl (by simp [yielded, undef, many_some hgN (show 199 < 254 by decide) e199]) (fun _ => trivial) ⟨z, by exact many_put3 (HOK.out _) (by rw [HVL.out]; rfl) hL, hph⟩
    · skip
      have y21 : L 21 = true := up_at hu 21 (by kernel_rfl)
      have y24 : L 24 = true := up_at hu 24 (by kernel_rfl)
      have e199 : (many gg_ L (VL z))[199]?.getD undef = undef := many_eval3 hgN (HOK.out z) (by rw [HVL.out]; rfl) y21
      have e202 : (many gg_ L (VL z))[202]?.getD undef = undef := many_eval3 hgN (HOK.out z) (by rw [HVL.out]; rfl) y24
      exact opIn_not_u (j := 21) (b := false) rfl rfl (by simp [yielded, undef, many_some hgN (show 199 < 254 by decide) e199]) (fun _ => trivial) ⟨z, by exact many_put3 (HOK.out _) (by rw [HVL.out]; rfl) hL, hph⟩
    · skip
      have y21 : L 21 = true := up_at hu 21 (by kernel_rfl)
      have y25 : L 25 = true := up_at hu 25 (by kernel_rfl)
      have e199 : (many gg_ L (VL z))[199]?.getD undef = undef := many_eval3 hgN (HOK.out z) (by rw [HVL.out]; rfl) y21
      have e203 : (many gg_ L (VL z))[203]?.getD undef = undef := many_eval3 hgN (HOK.out z) (by rw [HVL.out]; rfl) y25
      exact opIn_not_u (j := 21) (b := false) rfl rfl (by simp [yielded, undef, many_some hgN (show 199 < 254 by decide) e199]) (fun _ => trivial) ⟨z, by exact many_put3 (HOK.out _) (by rw [HVL.out]; rfl) hL, hph⟩
    · skip
      have y21 : L 21 = true := up_at hu 21 (by kernel_rfl)
      have e19 : (many gg_ L (VL z))[19]?.getD undef = .slice (some ⟨g5, o5, none⟩) bl C5 := many_out3 hgN (HOK.out z) (by rw [HVL.out]; rfl) hF19
      have e199 : (many gg_ L (VL z))[199]?.getD undef = undef := many_eval3 hgN (HOK.out z) (by rw [HVL.out]; rfl) y21
      exact opIn_not_u (j := 21) (b := false) rfl rfl (by simp [yielded, undef, many_some hgN (show 199 < 254 by decide) e199]) (fun _ => trivial) ⟨z, by exact many_put3 (HOK.out _) (by rw [HVL.out]; rfl) hL, hph⟩
    · skip
      have y21 : L 21 = true := up_at hu 21 (by kernel_rfl)
      have e21 : (many gg_ L (VL z))[21]?.getD undef = .int .i64 (i : Int) := many_out3 hgN (HOK.out z) (by rw [HVL.out]; rfl) hF21
      have e199 : (many gg_ L (VL z))[199]?.getD undef = undef := many_eval3 hgN (HOK.out z) (by rw [HVL.out]; rfl) y21
      exact opIn_not_u (j := 21) (b := false) rfl rfl (by simp [yielded, undef, many_some hgN (show 199 < 254 by decide) e199]) (fun _ => trivial) ⟨z, by exact many_put3 (HOK.out _) (by rw [HVL.out]; rfl) hL, hph⟩
    · skip
      have y21 : L 21 = true := up_at hu 21 (by kernel_rfl)
      have y28 : L 28 = true := up_at hu 28 (by kernel_rfl)
      have e199 : (many gg_ L (VL z))[199]?.getD undef = undef := many_eval3 hgN (HOK.out z) (by rw [HVL.out]; rfl) y21
      have e206 : (many gg_ L (VL z))[206]?.getD undef = undef := many_eval3 hgN (HOK.out z) (by rw [HVL.out]; rfl) y28
      exact opIn_not_u (j := 21) (b := false) rfl rfl (by simp [yielded, undef, many_some hgN (show 199 < 254 by decide) e199]) (fun _ => trivial) ⟨z, by exact many_put3 (HOK.out _) (by rw [HVL.out]; rfl) hL, hph⟩
    · skip
      have y21 : L 21 = true := up_at hu 21 (by kernel_rfl)
      have y27 : L 27 = true := up_at hu 27 (by kernel_rfl)
      have y29 : L 29 = true := up_at hu 29 (by kernel_rfl)
      have e199 : (many gg_ L (VL z))[199]?.getD undef = undef := many_eval3 hgN (HOK.out z) (by rw [HVL.out]; rfl) y21
      have e205 : (many gg_ L (VL z))[205]?.getD undef = undef := many_eval3 hgN (HOK.out z) (by rw [HVL.out]; rfl) y27
      have e207 : (many gg_ L (VL z))[207]?.getD undef = undef := many_eval3 hgN (HOK.out z) (by rw [HVL.out]; rfl) y29
      exact opIn_not_u (j := 21) (b := false) rfl rfl (by simp [yielded, undef, many_some hgN (show 199 < 254 by decide) e199]) (fun _ => trivial) ⟨z, by exact many_put3 (HOK.out _) (by rw [HVL.out]; rfl) hL, hph⟩
    · skip
      have y21 : L 21 = true := up_at hu 21 (by kernel_rfl)
      have y30 : L 30 = true := up_at hu 30 (by kernel_rfl)
      have e199 : (many gg_ L (VL z))[199]?.getD undef = undef := many_eval3 hgN (HOK.out z) (by rw [HVL.out]; rfl) y21
      have e208 : (many gg_ L (VL z))[208]?.getD undef = undef := many_eval3 hgN (HOK.out z) (by rw [HVL.out]; rfl) y30
      exact opIn_not_u (j := 21) (b := false) rfl rfl (by simp [yielded, undef, many_some hgN (show 199 < 254 by decide) e199]) (fun _ => trivial) ⟨z, by exact many_put3 (HOK.out _) (by rw [HVL.out]; rfl) hL, hph⟩
    · skip
      have y21 : L 21 = true := up_at hu 21 (by kernel_rfl)
      have y31 : L 31 = true := up_at hu 31 (by kernel_rfl)
      have e199 : (many gg_ L (VL z))[199]?.getD undef = undef := many_eval3 hgN (HOK.out z) (by rw [HVL.out]; rfl) y21
      have e209 : (many gg_ L (VL z))[209]?.getD undef = undef := many_eval3 hgN (HOK.out z) (by rw [HVL.out]; rfl) y31
      exact opIn_not_u (j := 21) (b := false) rfl rfl (by simp [yielded, undef, many_some hgN (show 199 < 254 by decide) e199]) (fun _ => trivial) ⟨z, by exact many_put3 (HOK.out _) (by rw [HVL.out]; rfl) hL, hph⟩
    · skip
      have y21 : L 21 = true := up_at hu 21 (by kernel_rfl)
      have y26 : L 26 = true := up_at hu 26 (by kernel_rfl)
      have y32 : L 32 = true := up_at hu 32 (by kernel_rfl)
      have e199 : (many gg_ L (VL z))[199]?.getD undef = undef := many_eval3 hgN (HOK.out z) (by rw [HVL.out]; rfl) y21
      have e204 : (many gg_ L (VL z))[204]?.getD undef = undef := many_eval3 hgN (HOK.out z) (by rw [HVL.out]; rfl) y26
      have e210 : (many gg_ L (VL z))[210]?.getD undef = undef := many_eval3 hgN (HOK.out z) (by rw [HVL.out]; rfl) y32
      exact opIn_not_u (j := 21) (b := false) rfl rfl (by simp [yielded, undef, many_some hgN (show 199 < 254 by decide) e199]) (fun _ => trivial) ⟨z, by exact many_put3 (HOK.out _) (by rw [HVL.out]; rfl) hL, hph⟩
    · skip
      have y8 : L 8 = true := up_at hu 8 (by kernel_rfl)
      have y21 : L 21 = true := up_at hu 21 (by kernel_rfl)
      have y33 : L 33 = true := up_at hu 33 (by kernel_rfl)
      have e186 : (many gg_ L (VL z))[186]?.getD undef = .bool false := many_eval3 hgN (HOK.out z) (by rw [HVL.out]; rfl) y8
      have e199 : (many gg_ L (VL z))[199]?.getD undef = undef := many_eval3 hgN (HOK.out z) (by rw [HVL.out]; rfl) y21
      have e211 : (many gg_ L (VL z))[211]?.getD undef = undef := many_eval3 hgN (HOK.out z) (by rw [HVL.out]; rfl) y33
      exact opIn_not_g (j := 8) (b := true) (c := false) rfl rfl (by simp [yielded, many_some hgN (show 186 < 254 by decide) e186]) (by decide) (fun _ => trivial) ⟨z, by exact many_put3 (HOK.out _) (by rw [HVL.out]; rfl) hL, hph⟩
    · skip
      have y8 : L 8 = true := up_at hu 8 (by kernel_rfl)
      have y34 : L 34 = true := up_at hu 34 (by kernel_rfl)
      have e186 : (many gg_ L (VL z))[186]?.getD undef = .bool false := many_eval3 hgN (HOK.out z) (by rw [HVL.out]; rfl) y8
      have e212 : (many gg_ L (VL z))[212]?.getD undef = undef := many_eval3 hgN (HOK.out z) (by rw [HVL.out]; rfl) y34
      refine opIn_run (v := .bool false) (w' := w') rfl rfl (fun c h => by cases h) (fun _ => trivial) ?_ ⟨z, by exact many_put3 (HOK.out _) (by rw [HVL.out]; rfl) hL, hph⟩
      go_simp
    · skip
      have y21 : L 21 = true := up_at hu 21 (by kernel_rfl)
      have y35 : L 35 = true := up_at hu 35 (by kernel_rfl)
      have e213 : (many gg_ L (VL z))[213]?.getD undef = .bool false := many_eval3 hgN (HOK.out z) (by rw [HVL.out]; rfl) y35
      refine opIn_run (v := .bool false) (w' := w') rfl rfl (fun c h => by cases h) (fun _ => trivial) ?_ ⟨z, by exact many_put3 (HOK.out _) (by rw [HVL.out]; rfl) hL, hph⟩
      go_simp
    · skip
      have y36 : L 36 = true := up_at hu 36 (by kernel_rfl)
      have e21 : (many gg_ L (VL z))[21]?.getD undef = .int .i64 (i : Int) := many_out3 hgN (HOK.out z) (by rw [HVL.out]; rfl) hF21
      have e214 : (many gg_ L (VL z))[214]?.getD undef = .bool false := many_eval3 hgN (HOK.out z) (by rw [HVL.out]; rfl) y36
      refine opIn_run_g (v := .int .i64 (i : Int)) (w' := w') (j := 36) (b := false) rfl rfl (by simp [yielded, many_some hgN (show 214 < 254 by decide) e214]) (fun c h => by cases h) (fun _ => trivial) ?_ ⟨z, by exact many_put3 (HOK.out _) (by rw [HVL.out]; rfl) hL, hph⟩
      go_simp
    · skip
      have y36 : L 36 = true := up_at hu 36 (by kernel_rfl)
      have e20 : (many gg_ L (VL z))[20]?.getD undef = .int .i64 bwd := many_out3 hgN (HOK.out z) (by rw [HVL.out]; rfl) hF20
      have e214 : (many gg_ L (VL z))[214]?.getD undef = .bool false := many_eval3 hgN (HOK.out z) (by rw [HVL.out]; rfl) y36
      refine opIn_run_g (v := .int .i64 bwd) (w' := w') (j := 36) (b := false) rfl rfl (by simp [yielded, many_some hgN (show 214 < 254 by decide) e214]) (fun c h => by cases h) (fun _ => trivial) ?_ ⟨z, by exact many_put3 (HOK.out _) (by rw [HVL.out]; rfl) hL, hph⟩
      go_simp
    · skip
      have y36 : L 36 = true := up_at hu 36 (by kernel_rfl)
      have y37 : L 37 = true := up_at hu 37 (by kernel_rfl)
      have y38 : L 38 = true := up_at hu 38 (by kernel_rfl)
      have e214 : (many gg_ L (VL z))[214]?.getD undef = .bool false := many_eval3 hgN (HOK.out z) (by rw [HVL.out]; rfl) y36
      have e215 : (many gg_ L (VL z))[215]?.getD undef = .int .i64 (i : Int) := many_eval3 hgN (HOK.out z) (by rw [HVL.out]; rfl) y37
      have e216 : (many gg_ L (VL z))[216]?.getD undef = .int .i64 bwd := many_eval3 hgN (HOK.out z) (by rw [HVL.out]; rfl) y38
      refine opIn_run_g (v := .bool true) (w' := w') (j := 36) (b := false) rfl rfl (by simp [yielded, many_some hgN (show 214 < 254 by decide) e214]) (fun c h => by cases h) (fun _ => trivial) ?_ ⟨z, by exact many_put3 (HOK.out _) (by rw [HVL.out]; rfl) hL, hph⟩
      go_simp
    · skip
      have y36 : L 36 = true := up_at hu 36 (by kernel_rfl)
      have y39 : L 39 = true := up_at hu 39 (by kernel_rfl)
      have e214 : (many gg_ L (VL z))[214]?.getD undef = .bool false := many_eval3 hgN (HOK.out z) (by rw [HVL.out]; rfl) y36
      have e217 : (many gg_ L (VL z))[217]?.getD undef = .bool true := many_eval3 hgN (HOK.out z) (by rw [HVL.out]; rfl) y39
      refine opIn_run_g (v := .bool true) (w' := w') (j := 36) (b := false) rfl rfl (by simp [yielded, many_some hgN (show 214 < 254 by decide) e214]) (fun c h => by cases h) (fun _ => trivial) ?_ ⟨z, by exact many_put3 (HOK.out _) (by rw [HVL.out]; rfl) hL, hph⟩
      go_simp
    · skip
      have y40 : L 40 = true := up_at hu 40 (by kernel_rfl)
      have e19 : (many gg_ L (VL z))[19]?.getD undef = .slice (some ⟨g5, o5, none⟩) bl C5 := many_out3 hgN (HOK.out z) (by rw [HVL.out]; rfl) hF19
      have e218 : (many gg_ L (VL z))[218]?.getD undef = .bool true := many_eval3 hgN (HOK.out z) (by rw [HVL.out]; rfl) y40
      refine opIn_run_g (v := .slice (some ⟨g5, o5, none⟩) bl C5) (w' := w') (j := 40) (b := true) rfl rfl (by simp [yielded, many_some hgN (show 218 < 254 by decide) e218]) (fun c h => by cases h) (fun _ => trivial) ?_ ⟨z, by exact many_put3 (HOK.out _) (by rw [HVL.out]; rfl) hL, hph⟩
      go_simp
    · skip
      have y40 : L 40 = true := up_at hu 40 (by kernel_rfl)
      have e21 : (many gg_ L (VL z))[21]?.getD undef = .int .i64 (i : Int) := many_out3 hgN (HOK.out z) (by rw [HVL.out]; rfl) hF21
      have e218 : (many gg_ L (VL z))[218]?.getD undef = .bool true := many_eval3 hgN (HOK.out z) (by rw [HVL.out]; rfl) y40
      refine opIn_run_g (v := .int .i64 (i : Int)) (w' := w') (j := 40) (b := true) rfl rfl (by simp [yielded, many_some hgN (show 218 < 254 by decide) e218]) (fun c h => by cases h) (fun _ => trivial) ?_ ⟨z, by exact many_put3 (HOK.out _) (by rw [HVL.out]; rfl) hL, hph⟩
      go_simp
    · skip
      have y40 : L 40 = true := up_at hu 40 (by kernel_rfl)
      have y41 : L 41 = true := up_at hu 41 (by kernel_rfl)
      have y42 : L 42 = true := up_at hu 42 (by kernel_rfl)
      have e218 : (many gg_ L (VL z))[218]?.getD undef = .bool true := many_eval3 hgN (HOK.out z) (by rw [HVL.out]; rfl) y40
      have e219 : (many gg_ L (VL z))[219]?.getD undef = .slice (some ⟨g5, o5, none⟩) bl C5 := many_eval3 hgN (HOK.out z) (by rw [HVL.out]; rfl) y41
      have e220 : (many gg_ L (VL z))[220]?.getD undef = .int .i64 (i : Int) := many_eval3 hgN (HOK.out z) (by rw [HVL.out]; rfl) y42
      refine opIn_run_g (v := .pointer (some ⟨g5, o5 + i * 4, none⟩)) (w' := w') (j := 40) (b := true) rfl rfl (by simp [yielded, many_some hgN (show 218 < 254 by decide) e218]) (fun c h => by cases h) (fun _ => trivial) ?_ ⟨z, by exact many_put3 (HOK.out _) (by rw [HVL.out]; rfl) hL, hph⟩
      go_simp
    · skip
      have y40 : L 40 = true := up_at hu 40 (by kernel_rfl)
      have y43 : L 43 = true := up_at hu 43 (by kernel_rfl)
      have e218 : (many gg_ L (VL z))[218]?.getD undef = .bool true := many_eval3 hgN (HOK.out z) (by rw [HVL.out]; rfl) y40
      have e221 : (many gg_ L (VL z))[221]?.getD undef = .pointer (some ⟨g5, o5 + i * 4, none⟩) := many_eval3 hgN (HOK.out z) (by rw [HVL.out]; rfl) y43
      refine opIn_run_g (v := .pointer (some ⟨g5, o5 + i * 4 + 1, none⟩)) (w' := w') (j := 40) (b := true) rfl rfl (by simp [yielded, many_some hgN (show 218 < 254 by decide) e218]) (fun c h => by cases h) (fun _ => trivial) ?_ ⟨z, by exact many_put3 (HOK.out _) (by rw [HVL.out]; rfl) hL, hph⟩
      go_simp
    · skip
      have y40 : L 40 = true := up_at hu 40 (by kernel_rfl)
      have y44 : L 44 = true := up_at hu 44 (by kernel_rfl)
      have hcell : w'.cell? ⟨g5, o5 + i * 4 + 1, none⟩ = some (.int .i64 c1) := (hph.cell (p := ⟨g5, o5 + i * 4 + 1, none⟩) HW6.out).trans x1'
      have e218 : (many gg_ L (VL z))[218]?.getD undef = .bool true := many_eval3 hgN (HOK.out z) (by rw [HVL.out]; rfl) y40
      have e222 : (many gg_ L (VL z))[222]?.getD undef = .pointer (some ⟨g5, o5 + i * 4 + 1, none⟩) := many_eval3 hgN (HOK.out z) (by rw [HVL.out]; rfl) y44
      refine opIn_run_g (v := .int .i64 c1) (w' := w') (j := 40) (b := true) rfl rfl (by simp [yielded, many_some hgN (show 218 < 254 by decide) e218]) (fun c h => by cases h) (fun _ => trivial) ?_ ⟨z, by exact many_put3 (HOK.out _) (by rw [HVL.out]; rfl) hL, hph⟩
      go_simp
    · skip
      have y40 : L 40 = true := up_at hu 40 (by kernel_rfl)
      have e19 : (many gg_ L (VL z))[19]?.getD undef = .slice (some ⟨g5, o5, none⟩) bl C5 := many_out3 hgN (HOK.out z) (by rw [HVL.out]; rfl) hF19
      have e218 : (many gg_ L (VL z))[218]?.getD undef = .bool true := many_eval3 hgN (HOK.out z) (by rw [HVL.out]; rfl) y40
      refine opIn_run_g (v := .slice (some ⟨g5, o5, none⟩) bl C5) (w' := w') (j := 40) (b := true) rfl rfl (by simp [yielded, many_some hgN (show 218 < 254 by decide) e218]) (fun c h => by cases h) (fun _ => trivial) ?_ ⟨z, by exact many_put3 (HOK.out _) (by rw [HVL.out]; rfl) hL, hph⟩
      go_simp
    · skip
      have y40 : L 40 = true := up_at hu 40 (by kernel_rfl)
      have e21 : (many gg_ L (VL z))[21]?.getD undef = .int .i64 (i : Int) := many_out3 hgN (HOK.out z) (by rw [HVL.out]; rfl) hF21
      have e218 : (many gg_ L (VL z))[218]?.getD undef = .bool true := many_eval3 hgN (HOK.out z) (by rw [HVL.out]; rfl) y40
      refine opIn_run_g (v := .int .i64 (i : Int)) (w' := w') (j := 40) (b := true) rfl rfl (by simp [yielded, many_some hgN (show 218 < 254 by decide) e218]) (fun c h => by cases h) (fun _ => trivial) ?_ ⟨z, by exact many_put3 (HOK.out _) (by rw [HVL.out]; rfl) hL, hph⟩
      go_simp
    · skip
      have y40 : L 40 = true := up_at hu 40 (by kernel_rfl)
      have e20 : (many gg_ L (VL z))[20]?.getD undef = .int .i64 bwd := many_out3 hgN (HOK.out z) (by rw [HVL.out]; rfl) hF20
      have e218 : (many gg_ L (VL z))[218]?.getD undef = .bool true := many_eval3 hgN (HOK.out z) (by rw [HVL.out]; rfl) y40
      refine opIn_run_g (v := .int .i64 bwd) (w' := w') (j := 40) (b := true) rfl rfl (by simp [yielded, many_some hgN (show 218 < 254 by decide) e218]) (fun c h => by cases h) (fun _ => trivial) ?_ ⟨z, by exact many_put3 (HOK.out _) (by rw [HVL.out]; rfl) hL, hph⟩
      go_simp
    · skip
      have y40 : L 40 = true := up_at hu 40 (by kernel_rfl)
      have y47 : L 47 = true := up_at hu 47 (by kernel_rfl)
      have y48 : L 48 = true := up_at hu 48 (by kernel_rfl)
      have q := HWU.out
      have e218 : (many gg_ L (VL z))[218]?.getD undef = .bool true := many_eval3 hgN (HOK.out z) (by rw [HVL.out]; rfl) y40
      have e225 : (many gg_ L (VL z))[225]?.getD undef = .int .i64 (i : Int) := many_eval3 hgN (HOK.out z) (by rw [HVL.out]; rfl) y47
      have e226 : (many gg_ L (VL z))[226]?.getD undef = .int .i64 bwd := many_eval3 hgN (HOK.out z) (by rw [HVL.out]; rfl) y48
      refine opIn_run_g (v := .int .i64 (j2 : Int)) (w' := w') (j := 40) (b := true) rfl rfl (by simp [yielded, many_some hgN (show 218 < 254 by decide) e218]) (fun c h => by cases h) (fun _ => trivial) ?_ ⟨z, by exact many_put3 (HOK.out _) (by rw [HVL.out]; rfl) hL, hph⟩
      go_simp
    · skip
      have y40 : L 40 = true := up_at hu 40 (by kernel_rfl)
      have y46 : L 46 = true := up_at hu 46 (by kernel_rfl)
      have y49 : L 49 = true := up_at hu 49 (by kernel_rfl)
      have e218 : (many gg_ L (VL z))[218]?.getD undef = .bool true := many_eval3 hgN (HOK.out z) (by rw [HVL.out]; rfl) y40
      have e224 : (many gg_ L (VL z))[224]?.getD undef = .slice (some ⟨g5, o5, none⟩) bl C5 := many_eval3 hgN (HOK.out z) (by rw [HVL.out]; rfl) y46
      have e227 : (many gg_ L (VL z))[227]?.getD undef = .int .i64 (j2 : Int) := many_eval3 hgN (HOK.out z) (by rw [HVL.out]; rfl) y49
      refine opIn_run_g (v := .pointer (some ⟨g5, o5 + j2 * 4, none⟩)) (w' := w') (j := 40) (b := true) rfl rfl (by simp [yielded, many_some hgN (show 218 < 254 by decide) e218]) (fun c h => by cases h) (fun _ => trivial) ?_ ⟨z, by exact many_put3 (HOK.out _) (by rw [HVL.out]; rfl) hL, hph⟩
      go_simp
    · skip
      have y40 : L 40 = true := up_at hu 40 (by kernel_rfl)
      have y50 : L 50 = true := up_at hu 50 (by kernel_rfl)
      have e218 : (many gg_ L (VL z))[218]?.getD undef = .bool true := many_eval3 hgN (HOK.out z) (by rw [HVL.out]; rfl) y40
      have e228 : (many gg_ L (VL z))[228]?.getD undef = .pointer (some ⟨g5, o5 + j2 * 4, none⟩) := many_eval3 hgN (HOK.out z) (by rw [HVL.out]; rfl) y50
      refine opIn_run_g (v := .pointer (some ⟨g5, o5 + j2 * 4 + 3, none⟩)) (w' := w') (j := 40) (b := true) rfl rfl (by simp [yielded, many_some hgN (show 218 < 254 by decide) e218]) (fun c h => by cases h) (fun _ => trivial) ?_ ⟨z, by exact many_put3 (HOK.out _) (by rw [HVL.out]; rfl) hL, hph⟩
      go_simp
    · skip
      have y40 : L 40 = true := up_at hu 40 (by kernel_rfl)
      have y51 : L 51 = true := up_at hu 51 (by kernel_rfl)
      have hcell : w'.cell? ⟨g5, o5 + j2 * 4 + 3, none⟩ = some (.int .i64 c1) := (hph.cell (p := ⟨g5, o5 + j2 * 4 + 3, none⟩) HW6.out).trans q3'
      have e218 : (many gg_ L (VL z))[218]?.getD undef = .bool true := many_eval3 hgN (HOK.out z) (by rw [HVL.out]; rfl) y40
      have e229 : (many gg_ L (VL z))[229]?.getD undef = .pointer (some ⟨g5, o5 + j2 * 4 + 3, none⟩) := many_eval3 hgN (HOK.out z) (by rw [HVL.out]; rfl) y51
      refine opIn_run_g (v := .int .i64 c1) (w' := w') (j := 40) (b := true) rfl rfl (by simp [yielded, many_some hgN (show 218 < 254 by decide) e218]) (fun c h => by cases h) (fun _ => trivial) ?_ ⟨z, by exact many_put3 (HOK.out _) (by rw [HVL.out]; rfl) hL, hph⟩
      go_simp
    · skip
      have y40 : L 40 = true := up_at hu 40 (by kernel_rfl)
      have y45 : L 45 = true := up_at hu 45 (by kernel_rfl)
      have y52 : L 52 = true := up_at hu 52 (by kernel_rfl)
      have e218 : (many gg_ L (VL z))[218]?.getD undef = .bool true := many_eval3 hgN (HOK.out z) (by rw [HVL.out]; rfl) y40
      have e223 : (many gg_ L (VL z))[223]?.getD undef = .int .i64 c1 := many_eval3 hgN (HOK.out z) (by rw [HVL.out]; rfl) y45
      have e230 : (many gg_ L (VL z))[230]?.getD undef = .int .i64 c1 := many_eval3 hgN (HOK.out z) (by rw [HVL.out]; rfl) y52
      refine opIn_run_g (v := .bool false) (w' := w') (j := 40) (b := true) rfl rfl (by simp [yielded, many_some hgN (show 218 < 254 by decide) e218]) (fun c h => by cases h) (fun _ => trivial) ?_ ⟨z, by exact many_put3 (HOK.out _) (by rw [HVL.out]; rfl) hL, hph⟩
      go_simp
    · skip
      have y36 : L 36 = true := up_at hu 36 (by kernel_rfl)
      have y40 : L 40 = true := up_at hu 40 (by kernel_rfl)
      have y53 : L 53 = true := up_at hu 53 (by kernel_rfl)
      have e214 : (many gg_ L (VL z))[214]?.getD undef = .bool false := many_eval3 hgN (HOK.out z) (by rw [HVL.out]; rfl) y36
      have e218 : (many gg_ L (VL z))[218]?.getD undef = .bool true := many_eval3 hgN (HOK.out z) (by rw [HVL.out]; rfl) y40
      have e231 : (many gg_ L (VL z))[231]?.getD undef = .bool false := many_eval3 hgN (HOK.out z) (by rw [HVL.out]; rfl) y53
      refine opIn_run_g (v := .bool false) (w' := w') (j := 36) (b := false) rfl rfl (by simp [yielded, many_some hgN (show 214 < 254 by decide) e214]) (fun c h => by cases h) (fun _ => trivial) ?_ ⟨z, by exact many_put3 (HOK.out _) (by rw [HVL.out]; rfl) hL, hph⟩
      go_simp
    · skip
      have y36 : L 36 = true := up_at hu 36 (by kernel_rfl)
      have y54 : L 54 = true := up_at hu 54 (by kernel_rfl)
      have e214 : (many gg_ L (VL z))[214]?.getD undef = .bool false := many_eval3 hgN (HOK.out z) (by rw [HVL.out]; rfl) y36
      have e232 : (many gg_ L (VL z))[232]?.getD undef = .bool false := many_eval3 hgN (HOK.out z) (by rw [HVL.out]; rfl) y54
      refine opIn_run (v := .bool false) (w' := w') rfl rfl (fun c h => by cases h) (fun _ => trivial) ?_ ⟨z, by exact many_put3 (HOK.out _) (by rw [HVL.out]; rfl) hL, hph⟩
      go_simp
  case fin =>
    intro L z w' hall hph
    rw [HVL.out]
    exact hQ _ hph
set_option maxHeartbeats 8000000 in
theorem cbReg24c (g5 o5 bl C5 i j1 j2 md : Nat) (bwd c0 c1 : Int) (W6 : World) (hiI : (i : Int) < (bl : Int) ∧ (0 : Int) ≤ (i : Int)) (i1 : (0 : Int) < (i : Int)) (i1n : 0 < i) (HMD : Hid ((i : Int).tmod bwd = (md : Int))) (bw0 : ¬ bwd = 0) (HMD0 : Hid (0 < md)) (w1 : ¬ bwd ≤ (i : Int)) (HW6 : Hid (g5 < W6.heap.size)) (x0' : W6.cell? ⟨g5, o5 + i * 4, none⟩ = some (.int .i64 c0)) (x1' : W6.cell? ⟨g5, o5 + i * 4 + 1, none⟩ = some (.int .i64 c1)) (bl1 : (j1 : Int) < (bl : Int) ∧ (0 : Int) ≤ (j1 : Int)) (HWL : Hid (IntKind.i64.wrap ((i : Int) - 1) = (j1 : Int))) (q2 : W6.cell? ⟨g5, o5 + j1 * 4 + 2, none⟩ = some (.int .i64 c0)) (q1 : W6.cell? ⟨g5, o5 + j1 * 4 + 1, none⟩ = some (.int .i64 c1)) (fl : List Value) (hfl : fl.length = 254) (hf19 : fl.getD 19 undef = .slice (some ⟨g5, o5, none⟩) bl C5) (hf20 : fl.getD 20 undef = .int .i64 bwd) (hf21 : fl.getD 21 undef = .int .i64 (i : Int)) {Q : Exit → Act → World → Prop} (hQ : ∀ w', Below W6.heap.size W6 w' → Q .normal ⟨(manyL fl [(0, 178, .int .i64 (i : Int)), (1, 179, .bool true), (2, 180, .bool true), (3, 181, .int .i64 (i : Int)), (4, 182, .int .i64 bwd), (5, 183, .int .i64 (md : Int)), (6, 184, .bool true), (7, 185, .bool true), (8, 186, .bool true), (9, 187, .slice (some ⟨g5, o5, none⟩) bl C5), (10, 188, .int .i64 (i : Int)), (11, 189, .pointer (some ⟨g5, o5 + i * 4, none⟩)), (12, 190, .pointer (some ⟨g5, o5 + i * 4, none⟩)), (13, 191, .int .i64 c0), (14, 192, .slice (some ⟨g5, o5, none⟩) bl C5), (15, 193, .int .i64 (i : Int)), (16, 194, .int .i64 (j1 : Int)), (17, 195, .pointer (some ⟨g5, o5 + j1 * 4, none⟩)), (18, 196, .pointer (some ⟨g5, o5 + j1 * 4 + 2, none⟩)), (19, 197, .int .i64 c0), (20, 198, .bool false), (21, 199, .bool false), (22, 200, .slice (some ⟨g5, o5, none⟩) bl C5), (23, 201, .int .i64 (i : Int)), (24, 202, .pointer (some ⟨g5, o5 + i * 4, none⟩)), (25, 203, .pointer (some ⟨g5, o5 + i * 4 + 1, none⟩)), (26, 204, .int .i64 c1), (27, 205, .slice (some ⟨g5, o5, none⟩) bl C5), (28, 206, .int .i64 (i : Int)), (29, 207, .int .i64 (j1 : Int)), (30, 208, .pointer (some ⟨g5, o5 + j1 * 4, none⟩)), (31, 209, .pointer (some ⟨g5, o5 + j1 * 4 + 1, none⟩)), (32, 210, .int .i64 c1), (33, 211, .bool false), (34, 212, .bool false), (35, 213, .bool false), (36, 214, .bool false), (37, 215, .int .i64 (i : Int)), (38, 216, .int .i64 bwd), (39, 217, .bool false), (40, 218, .bool false), (41, 219, undef), (42, 220, undef), (43, 221, undef), (44, 222, undef), (45, 223, undef), (46, 224, undef), (47, 225, undef), (48, 226, undef), (49, 227, undef), (50, 228, undef), (51, 229, undef), (52, 230, undef), (53, 231, undef), (54, 232, .bool false), (55, 233, .bool false)]).toArray, []⟩ w') :
    (Code.region 24 (regOps Try.f9 24) true).wp Try.prog Q ⟨fl.toArray, []⟩ W6 := by
  obtain ⟨o_, ho_⟩ : ∃ o, regOps Try.f9 24 = o := ⟨_, rfl⟩
  rw [ho_]
  conv at ho_ => lhs; whnf
  subst ho_
  obtain ⟨VL, hVL⟩ : ∃ VL : Unit → List (Nat × Nat × Value), VL = fun z => [(0, 178, .int .i64 (i : Int)), (1, 179, .bool true), (2, 180, .bool true), (3, 181, .int .i64 (i : Int)), (4, 182, .int .i64 bwd), (5, 183, .int .i64 (md : Int)), (6, 184, .bool true), (7, 185, .bool true), (8, 186, .bool true), (9, 187, .slice (some ⟨g5, o5, none⟩) bl C5), (10, 188, .int .i64 (i : Int)), (11, 189, .pointer (some ⟨g5, o5 + i * 4, none⟩)), (12, 190, .pointer (some ⟨g5, o5 + i * 4, none⟩)), (13, 191, .int .i64 c0), (14, 192, .slice (some ⟨g5, o5, none⟩) bl C5), (15, 193, .int .i64 (i : Int)), (16, 194, .int .i64 (j1 : Int)), (17, 195, .pointer (some ⟨g5, o5 + j1 * 4, none⟩)), (18, 196, .pointer (some ⟨g5, o5 + j1 * 4 + 2, none⟩)), (19, 197, .int .i64 c0), (20, 198, .bool false), (21, 199, .bool false), (22, 200, .slice (some ⟨g5, o5, none⟩) bl C5), (23, 201, .int .i64 (i : Int)), (24, 202, .pointer (some ⟨g5, o5 + i * 4, none⟩)), (25, 203, .pointer (some ⟨g5, o5 + i * 4 + 1, none⟩)), (26, 204, .int .i64 c1), (27, 205, .slice (some ⟨g5, o5, none⟩) bl C5), (28, 206, .int .i64 (i : Int)), (29, 207, .int .i64 (j1 : Int)), (30, 208, .pointer (some ⟨g5, o5 + j1 * 4, none⟩)), (31, 209, .pointer (some ⟨g5, o5 + j1 * 4 + 1, none⟩)), (32, 210, .int .i64 c1), (33, 211, .bool false), (34, 212, .bool false), (35, 213, .bool false), (36, 214, .bool false), (37, 215, .int .i64 (i : Int)), (38, 216, .int .i64 bwd), (39, 217, .bool false), (40, 218, .bool false), (41, 219, undef), (42, 220, undef), (43, 221, undef), (44, 222, undef), (45, 223, undef), (46, 224, undef), (47, 225, undef), (48, 226, undef), (49, 227, undef), (50, 228, undef), (51, 229, undef), (52, 230, undef), (53, 231, undef), (54, 232, .bool false), (55, 233, .bool false)] := ⟨_, rfl⟩
  have hok : ∀ z, manyOk 254 (VL z) := fun z => by rw [hVL]; exact okB_ok rfl
  have HVL := Lib.hid hVL
  have hvi : ∀ z, ∀ x ∈ VL z, x.1 < 56 := fun z => by rw [hVL]; exact ltB_ok rfl
  have HOK := Lib.hid hok
  have HVI := Lib.hid hvi
  clear hVL hok hvi
  refine (wpIn_wide (n := 9)).1 (regionIn_many (N := 254) (w := W6) VL (fun L z w' => Below W6.heap.size W6 w') [(19, .slice (some ⟨g5, o5, none⟩) bl C5), (20, .int .i64 bwd), (21, .int .i64 (i : Int))] (by kernel_rfl) (by kernel_rfl) hfl (by simp only [List.forall_mem_cons, List.not_mem_nil, false_imp_iff, implies_true, and_true]; exact ⟨hf19, hf20, hf21⟩) HVI.out () ?start ?step ?fin)
  case start => exact (Below.refl _ _).drew
  case step =>
    intro gg_ hgN hgF ii_ hii_ L z w' hph hs hu
    have hF19 := hgF (19, .slice (some ⟨g5, o5, none⟩) bl C5) (by simp)
    have hF20 := hgF (20, .int .i64 bwd) (by simp)
    have hF21 := hgF (21, .int .i64 (i : Int)) (by simp)
    have hL := hu.1
    have hii_ : ii_ < 56 := hii_
    clear hgF
    obtain rfl | rfl | rfl | rfl | rfl | rfl | rfl | rfl | rfl | rfl | rfl | rfl | rfl | rfl | rfl | rfl | rfl | rfl | rfl | rfl | rfl | rfl | rfl | rfl | rfl | rfl | rfl | rfl | rfl | rfl | rfl | rfl | rfl | rfl | rfl | rfl | rfl | rfl | rfl | rfl | rfl | rfl | rfl | rfl | rfl | rfl | rfl | rfl | rfl | rfl | rfl | rfl | rfl | rfl | rfl | rfl := (by omega : ii_ = 0 ∨ ii_ = 1 ∨ ii_ = 2 ∨ ii_ = 3 ∨ ii_ = 4 ∨ ii_ = 5 ∨ ii_ = 6 ∨ ii_ = 7 ∨ ii_ = 8 ∨ ii_ = 9 ∨ ii_ = 10 ∨ ii_ = 11 ∨ ii_ = 12 ∨ ii_ = 13 ∨ ii_ = 14 ∨ ii_ = 15 ∨ ii_ = 16 ∨ ii_ = 17 ∨ ii_ = 18 ∨ ii_ = 19 ∨ ii_ = 20 ∨ ii_ = 21 ∨ ii_ = 22 ∨ ii_ = 23 ∨ ii_ = 24 ∨ ii_ = 25 ∨ ii_ = 26 ∨ ii_ = 27 ∨ ii_ = 28 ∨ ii_ = 29 ∨ ii_ = 30 ∨ ii_ = 31 ∨ ii_ = 32 ∨ ii_ = 33 ∨ ii_ = 34 ∨ ii_ = 35 ∨ ii_ = 36 ∨ ii_ = 37 ∨ ii_ = 38 ∨ ii_ = 39 ∨ ii_ = 40 ∨ ii_ = 41 ∨ ii_ = 42 ∨ ii_ = 43 ∨ ii_ = 44 ∨ ii_ = 45 ∨ ii_ = 46 ∨ ii_ = 47 ∨ ii_ = 48 ∨ ii_ = 49 ∨ ii_ = 50 ∨ ii_ = 51 ∨ ii_ = 52 ∨ ii_ = 53 ∨ ii_ = 54 ∨ ii_ = 55)
    · skip
      have e21 : (many gg_ L (VL z))[21]?.getD undef = .int .i64 (i : Int) := many_out3 hgN (HOK.out z) (by rw [HVL.out]; rfl) hF21
      refine opIn_run (v := .int .i64 (i : Int)) (w' := w') rfl rfl (fun c h => by cases h) (fun _ => trivial) ?_ ⟨z, by exact many_put3 (HOK.out _) (by rw [HVL.out]; rfl) hL, hph⟩
      go_simp
    · skip
      have y0 : L 0 = true := up_at hu 0 (by kernel_rfl)
      have e178 : (many gg_ L (VL z))[178]?.getD undef = .int .i64 (i : Int) := many_eval3 hgN (HOK.out z) (by rw [HVL.out]; rfl) y0
      refine opIn_run (v := .bool true) (w' := w') rfl rfl (fun c h => by cases h) (fun _ => trivial) ?_ ⟨z, by exact many_put3 (HOK.out _) (by rw [HVL.out]; rfl) hL, hph⟩
      go_simp
    · skip
      have y1 : L 1 = true := up_at hu 1 (by kernel_rfl)
      have e179 : (many gg_ L (VL z))[179]?.getD undef = .bool true := many_eval3 hgN (HOK.out z) (by rw [HVL.out]; rfl) y1
      refine opIn_run (v := .bool true) (w' := w') rfl rfl (fun c h => by cases h) (fun _ => trivial) ?_ ⟨z, by exact many_put3 (HOK.out _) (by rw [HVL.out]; rfl) hL, hph⟩
      go_simp
    · skip
      have y2 : L 2 = true := up_at hu 2 (by kernel_rfl)
      have e21 : (many gg_ L (VL z))[21]?.getD undef = .int .i64 (i : Int) := many_out3 hgN (HOK.out z) (by rw [HVL.out]; rfl) hF21
      have e180 : (many gg_ L (VL z))[180]?.getD undef = .bool true := many_eval3 hgN (HOK.out z) (by rw [HVL.out]; rfl) y2
      refine opIn_run_g (v := .int .i64 (i : Int)) (w' := w') (j := 2) (b := true) rfl rfl (by simp [yielded, many_some hgN (show 180 < 254 by decide) e180]) (fun c h => by cases h) (fun _ => trivial) ?_ ⟨z, by exact many_put3 (HOK.out _) (by rw [HVL.out]; rfl) hL, hph⟩
      go_simp
    · skip
      have y2 : L 2 = true := up_at hu 2 (by kernel_rfl)
      have e20 : (many gg_ L (VL z))[20]?.getD undef = .int .i64 bwd := many_out3 hgN (HOK.out z) (by rw [HVL.out]; rfl) hF20
      have e180 : (many gg_ L (VL z))[180]?.getD undef = .bool true := many_eval3 hgN (HOK.out z) (by rw [HVL.out]; rfl) y2
      refine opIn_run_g (v := .int .i64 bwd) (w' := w') (j := 2) (b := true) rfl rfl (by simp [yielded, many_some hgN (show 180 < 254 by decide) e180]) (fun c h => by cases h) (fun _ => trivial) ?_ ⟨z, by exact many_put3 (HOK.out _) (by rw [HVL.out]; rfl) hL, hph⟩
      go_simp
    · skip
      have y2 : L 2 = true := up_at hu 2 (by kernel_rfl)
      have y3 : L 3 = true := up_at hu 3 (by kernel_rfl)
      have y4 : L 4 = true := up_at hu 4 (by kernel_rfl)
      have e180 : (many gg_ L (VL z))[180]?.getD undef = .bool true := many_eval3 hgN (HOK.out z) (by rw [HVL.out]; rfl) y2
      have e181 : (many gg_ L (VL z))[181]?.getD undef = .int .i64 (i : Int) := many_eval3 hgN (HOK.out z) (by rw [HVL.out]; rfl) y3
      have e182 : (many gg_ L (VL z))[182]?.getD undef = .int .i64 bwd := many_eval3 hgN (HOK.out z) (by rw [HVL.out]; rfl) y4
      refine opIn_run_g (v := .int .i64 (md : Int)) (w' := w') (j := 2) (b := true) rfl rfl (by simp [yielded, many_some hgN (show 180 < 254 by decide) e180]) (fun c h => by cases h) (fun _ => trivial) ?_ ⟨z, by exact many_put3 (HOK.out _) (by rw [HVL.out]; rfl) hL, hph⟩
      go_simp
      exact HMD.out
    · skip
      have y2 : L 2 = true := up_at hu 2 (by kernel_rfl)
      have y5 : L 5 = true := up_at hu 5 (by kernel_rfl)
      have q := HMD0.out
      have e180 : (many gg_ L (VL z))[180]?.getD undef = .bool true := many_eval3 hgN (HOK.out z) (by rw [HVL.out]; rfl) y2
      have e183 : (many gg_ L (VL z))[183]?.getD undef = .int .i64 (md : Int) := many_eval3 hgN (HOK.out z) (by rw [HVL.out]; rfl) y5
      refine opIn_run_g (v := .bool true) (w' := w') (j := 2) (b := true) rfl rfl (by simp [yielded, many_some hgN (show 180 < 254 by decide) e180]) (fun c h => by cases h) (fun _ => trivial) ?_ ⟨z, by exact many_put3 (HOK.out _) (by rw [HVL.out]; rfl) hL, hph⟩
      go_simp
    · skip
      have y2 : L 2 = true := up_at hu 2 (by kernel_rfl)
      have y6 : L 6 = true := up_at hu 6 (by kernel_rfl)
      have e180 : (many gg_ L (VL z))[180]?.getD undef = .bool true := many_eval3 hgN (HOK.out z) (by rw [HVL.out]; rfl) y2
      have e184 : (many gg_ L (VL z))[184]?.getD undef = .bool true := many_eval3 hgN (HOK.out z) (by rw [HVL.out]; rfl) y6
      refine opIn_run (v := .bool true) (w' := w') rfl rfl (fun c h => by cases h) (fun _ => trivial) ?_ ⟨z, by exact many_put3 (HOK.out _) (by rw [HVL.out]; rfl) hL, hph⟩
      go_simp
    · skip
      have y2 : L 2 = true := up_at hu 2 (by kernel_rfl)
      have y7 : L 7 = true := up_at hu 7 (by kernel_rfl)
      have e185 : (many gg_ L (VL z))[185]?.getD undef = .bool true := many_eval3 hgN (HOK.out z) (by rw [HVL.out]; rfl) y7
      refine opIn_run (v := .bool true) (w' := w') rfl rfl (fun c h => by cases h) (fun _ => trivial) ?_ ⟨z, by exact many_put3 (HOK.out _) (by rw [HVL.out]; rfl) hL, hph⟩
      go_simp
    · skip
      have y8 : L 8 = true := up_at hu 8 (by kernel_rfl)
      have e19 : (many gg_ L (VL z))[19]?.getD undef = .slice (some ⟨g5, o5, none⟩) bl C5 := many_out3 hgN (HOK.out z) (by rw [HVL.out]; rfl) hF19
      have e186 : (many gg_ L (VL z))[186]?.getD undef = .bool true := many_eval3 hgN (HOK.out z) (by rw [HVL.out]; rfl) y8
      refine opIn_run_g (v := .slice (some ⟨g5, o5, none⟩) bl C5) (w' := w') (j := 8) (b := true) rfl rfl (by simp [yielded, many_some hgN (show 186 < 254 by decide) e186]) (fun c h => by cases h) (fun _ => trivial) ?_ ⟨z, by exact many_put3 (HOK.out _) (by rw [HVL.out]; rfl) hL, hph⟩
      go_simp
    · skip
      have y8 : L 8 = true := up_at hu 8 (by kernel_rfl)
      have e21 : (many gg_ L (VL z))[21]?.getD undef = .int .i64 (i : Int) := many_out3 hgN (HOK.out z) (by rw [HVL.out]; rfl) hF21
      have e186 : (many gg_ L (VL z))[186]?.getD undef = .bool true := many_eval3 hgN (HOK.out z) (by rw [HVL.out]; rfl) y8
      refine opIn_run_g (v := .int .i64 (i : Int)) (w' := w') (j := 8) (b := true) rfl rfl (by simp [yielded, many_some hgN (show 186 < 254 by decide) e186]) (fun c h => by cases h) (fun _ => trivial) ?_ ⟨z, by exact many_put3 (HOK.out _) (by rw [HVL.out]; rfl) hL, hph⟩
      go_simp
    · skip
      have y8 : L 8 = true := up_at hu 8 (by kernel_rfl)
      have y9 : L 9 = true := up_at hu 9 (by kernel_rfl)
      have y10 : L 10 = true := up_at hu 10 (by kernel_rfl)
      have e186 : (many gg_ L (VL z))[186]?.getD undef = .bool true := many_eval3 hgN (HOK.out z) (by rw [HVL.out]; rfl) y8
      have e187 : (many gg_ L (VL z))[187]?.getD undef = .slice (some ⟨g5, o5, none⟩) bl C5 := many_eval3 hgN (HOK.out z) (by rw [HVL.out]; rfl) y9
      have e188 : (many gg_ L (VL z))[188]?.getD undef = .int .i64 (i : Int) := many_eval3 hgN (HOK.out z) (by rw [HVL.out]; rfl) y10
      refine opIn_run_g (v := .pointer (some ⟨g5, o5 + i * 4, none⟩)) (w' := w') (j := 8) (b := true) rfl rfl (by simp [yielded, many_some hgN (show 186 < 254 by decide) e186]) (fun c h => by cases h) (fun _ => trivial) ?_ ⟨z, by exact many_put3 (HOK.out _) (by rw [HVL.out]; rfl) hL, hph⟩
      go_simp
    · skip
      have y8 : L 8 = true := up_at hu 8 (by kernel_rfl)
      have y11 : L 11 = true := up_at hu 11 (by kernel_rfl)
      have e186 : (many gg_ L (VL z))[186]?.getD undef = .bool true := many_eval3 hgN (HOK.out z) (by rw [HVL.out]; rfl) y8
      have e189 : (many gg_ L (VL z))[189]?.getD undef = .pointer (some ⟨g5, o5 + i * 4, none⟩) := many_eval3 hgN (HOK.out z) (by rw [HVL.out]; rfl) y11
      refine opIn_run_g (v := .pointer (some ⟨g5, o5 + i * 4, none⟩)) (w' := w') (j := 8) (b := true) rfl rfl (by simp [yielded, many_some hgN (show 186 < 254 by decide) e186]) (fun c h => by cases h) (fun _ => trivial) ?_ ⟨z, by exact many_put3 (HOK.out _) (by rw [HVL.out]; rfl) hL, hph⟩
      go_simp
    · skip
      have y8 : L 8 = true := up_at hu 8 (by kernel_rfl)
      have y12 : L 12 = true := up_at hu 12 (by kernel_rfl)
      have hcell : w'.cell? ⟨g5, o5 + i * 4, none⟩ = some (.int .i64 c0) := (hph.cell (p := ⟨g5, o5 + i * 4, none⟩) HW6.out).trans x0'
      have e186 : (many gg_ L (VL z))[186]?.getD undef = .bool true := many_eval3 hgN (HOK.out z) (by rw [HVL.out]; rfl) y8
      have e190 : (many gg_ L (VL z))[190]?.getD undef = .pointer (some ⟨g5, o5 + i * 4, none⟩) := many_eval3 hgN (HOK.out z) (by rw [HVL.out]; rfl) y12
      refine opIn_run_g (v := .int .i64 c0) (w' := w') (j := 8) (b := true) rfl rfl (by simp [yielded, many_some hgN (show 186 < 254 by decide) e186]) (fun c h => by cases h) (fun _ => trivial) ?_ ⟨z, by exact many_put3 (HOK.out _) (by rw [HVL.out]; rfl) hL, hph⟩
      go_simp
    · skip
      have y8 : L 8 = true := up_at hu 8 (by kernel_rfl)
      have e19 : (many gg_ L (VL z))[19]?.getD undef = .slice (some ⟨g5, o5, none⟩) bl C5 := many_out3 hgN (HOK.out z) (by rw [HVL.out]; rfl) hF19
      have e186 : (many gg_ L (VL z))[186]?.getD undef = .bool true := many_eval3 hgN (HOK.out z) (by rw [HVL.out]; rfl) y8
      refine opIn_run_g (v := .slice (some ⟨g5, o5, none⟩) bl C5) (w' := w') (j := 8) (b := true) rfl rfl (by simp [yielded, many_some hgN (show 186 < 254 by decide) e186]) (fun c h => by cases h) (fun _ => trivial) ?_ ⟨z, by exact many_put3 (HOK.out _) (by rw [HVL.out]; rfl) hL, hph⟩
      go_simp
    · skip
      have y8 : L 8 = true := up_at hu 8 (by kernel_rfl)
      have e21 : (many gg_ L (VL z))[21]?.getD undef = .int .i64 (i : Int) := many_out3 hgN (HOK.out z) (by rw [HVL.out]; rfl) hF21
      have e186 : (many gg_ L (VL z))[186]?.getD undef = .bool true := many_eval3 hgN (HOK.out z) (by rw [HVL.out]; rfl) y8
      refine opIn_run_g (v := .int .i64 (i : Int)) (w' := w') (j := 8) (b := true) rfl rfl (by simp [yielded, many_some hgN (show 186 < 254 by decide) e186]) (fun c h => by cases h) (fun _ => trivial) ?_ ⟨z, by exact many_put3 (HOK.out _) (by rw [HVL.out]; rfl) hL, hph⟩
      go_simp
    · skip
      have y8 : L 8 = true := up_at hu 8 (by kernel_rfl)
      have y15 : L 15 = true := up_at hu 15 (by kernel_rfl)
      have q := HWL.out
      have e186 : (many gg_ L (VL z))[186]?.getD undef = .bool true := many_eval3 hgN (HOK.out z) (by rw [HVL.out]; rfl) y8
      have e193 : (many gg_ L (VL z))[193]?.getD undef = .int .i64 (i : Int) := many_eval3 hgN (HOK.out z) (by rw [HVL.out]; rfl) y15
      refine opIn_run_g (v := .int .i64 (j1 : Int)) (w' := w') (j := 8) (b := true) rfl rfl (by simp [yielded, many_some hgN (show 186 < 254 by decide) e186]) (fun c h => by cases h) (fun _ => trivial) ?_ ⟨z, by exact many_put3 (HOK.out _) (by rw [HVL.out]; rfl) hL, hph⟩
      go_simp
    · skip
      have y8 : L 8 = true := up_at hu 8 (by kernel_rfl)
      have y14 : L 14 = true := up_at hu 14 (by kernel_rfl)
      have y16 : L 16 = true := up_at hu 16 (by kernel_rfl)
      have e186 : (many gg_ L (VL z))[186]?.getD undef = .bool true := many_eval3 hgN (HOK.out z) (by rw [HVL.out]; rfl) y8
      have e192 : (many gg_ L (VL z))[192]?.getD undef = .slice (some ⟨g5, o5, none⟩) bl C5 := many_eval3 hgN (HOK.out z) (by rw [HVL.out]; rfl) y14
      have e194 : (many gg_ L (VL z))[194]?.getD undef = .int .i64 (j1 : Int) := many_eval3 hgN (HOK.out z) (by rw [HVL.out]; rfl) y16
      refine opIn_run_g (v := .pointer (some ⟨g5, o5 + j1 * 4, none⟩)) (w' := w') (j := 8) (b := true) rfl rfl (by simp [yielded, many_some hgN (show 186 < 254 by decide) e186]) (fun c h => by cases h) (fun _ => trivial) ?_ ⟨z, by exact many_put3 (HOK.out _) (by rw [HVL.out]; rfl) hL, hph⟩
      go_simp
    · skip
      have y8 : L 8 = true := up_at hu 8 (by kernel_rfl)
      have y17 : L 17 = true := up_at hu 17 (by kernel_rfl)
      have e186 : (many gg_ L (VL z))[186]?.getD undef = .bool true := many_eval3 hgN (HOK.out z) (by rw [HVL.out]; rfl) y8
      have e195 : (many gg_ L (VL z))[195]?.getD undef = .pointer (some ⟨g5, o5 + j1 * 4, none⟩) := many_eval3 hgN (HOK.out z) (by rw [HVL.out]; rfl) y17
      refine opIn_run_g (v := .pointer (some ⟨g5, o5 + j1 * 4 + 2, none⟩)) (w' := w') (j := 8) (b := true) rfl rfl (by simp [yielded, many_some hgN (show 186 < 254 by decide) e186]) (fun c h => by cases h) (fun _ => trivial) ?_ ⟨z, by exact many_put3 (HOK.out _) (by rw [HVL.out]; rfl) hL, hph⟩
      go_simp
    · skip
      have y8 : L 8 = true := up_at hu 8 (by kernel_rfl)
      have y18 : L 18 = true := up_at hu 18 (by kernel_rfl)
      have hcell : w'.cell? ⟨g5, o5 + j1 * 4 + 2, none⟩ = some (.int .i64 c0) := (hph.cell (p := ⟨g5, o5 + j1 * 4 + 2, none⟩) HW6.out).trans q2
      have e186 : (many gg_ L (VL z))[186]?.getD undef = .bool true := many_eval3 hgN (HOK.out z) (by rw [HVL.out]; rfl) y8
      have e196 : (many gg_ L (VL z))[196]?.getD undef = .pointer (some ⟨g5, o5 + j1 * 4 + 2, none⟩) := many_eval3 hgN (HOK.out z) (by rw [HVL.out]; rfl) y18
      refine opIn_run_g (v := .int .i64 c0) (w' := w') (j := 8) (b := true) rfl rfl (by simp [yielded, many_some hgN (show 186 < 254 by decide) e186]) (fun c h => by cases h) (fun _ => trivial) ?_ ⟨z, by exact many_put3 (HOK.out _) (by rw [HVL.out]; rfl) hL, hph⟩
      go_simp
    · skip
      have y8 : L 8 = true := up_at hu 8 (by kernel_rfl)
      have y13 : L 13 = true := up_at hu 13 (by kernel_rfl)
      have y19 : L 19 = true := up_at hu 19 (by kernel_rfl)
      have e186 : (many gg_ L (VL z))[186]?.getD undef = .bool true := many_eval3 hgN (HOK.out z) (by rw [HVL.out]; rfl) y8
      have e191 : (many gg_ L (VL z))[191]?.getD undef = .int .i64 c0 := many_eval3 hgN (HOK.out z) (by rw [HVL.out]; rfl) y13
      have e197 : (many gg_ L (VL z))[197]?.getD undef = .int .i64 c0 := many_eval3 hgN (HOK.out z) (by rw [HVL.out]; rfl) y19
      refine opIn_run_g (v := .bool false) (w' := w') (j := 8) (b := true) rfl rfl (by simp [yielded, many_some hgN (show 186 < 254 by decide) e186]) (fun c h => by cases h) (fun _ => trivial) ?_ ⟨z, by exact many_put3 (HOK.out _) (by rw [HVL.out]; rfl) hL, hph⟩
      go_simp
    · skip
      have y8 : L 8 = true := up_at hu 8 (by kernel_rfl)
      have y20 : L 20 = true := up_at hu 20 (by kernel_rfl)
      have e186 : (many gg_ L (VL z))[186]?.getD undef = .bool true := many_eval3 hgN (HOK.out z) (by rw [HVL.out]; rfl) y8
      have e198 : (many gg_ L (VL z))[198]?.getD undef = .bool false := many_eval3 hgN (HOK.out z) (by rw [HVL.out]; rfl) y20
      refine opIn_run_g (v := .bool false) (w' := w') (j := 8) (b := true) rfl rfl (by simp [yielded, many_some hgN (show 186 < 254 by decide) e186]) (fun c h => by cases h) (fun _ => trivial) ?_ ⟨z, by exact many_put3 (HOK.out _) (by rw [HVL.out]; rfl) hL, hph⟩
      go_simp
    · skip
      have y21 : L 21 = true := up_at hu 21 (by kernel_rfl)
      have e19 : (many gg_ L (VL z))[19]?.getD undef = .slice (some ⟨g5, o5, none⟩) bl C5 := many_out3 hgN (HOK.out z) (by rw [HVL.out]; rfl) hF19
      have e199 : (many gg_ L (VL z))[199]?.getD undef = .bool false := many_eval3 hgN (HOK.out z) (by rw [HVL.out]; rfl) y21
      refine opIn_run_g (v := .slice (some ⟨g5, o5, none⟩) bl C5) (w' := w') (j := 21) (b := false) rfl rfl (by simp [yielded, many_some hgN (show 199 < 254 by decide) e199]) (fun c h => by cases h) (fun _ => trivial) ?_ ⟨z, by exact many_put3 (HOK.out _) (by rw [HVL.out]; rfl) hL, hph⟩
      go_simp
    · skip
      have y21 : L 21 = true := up_at hu 21 (by kernel_rfl)
      have e21 : (many gg_ L (VL z))[21]?.getD undef = .int .i64 (i : Int) := many_out3 hgN (HOK.out z) (by rw [HVL.out]; rfl) hF21
      have e199 : (many gg_ L (VL z))[199]?.getD undef = .bool false := many_eval3 hgN (HOK.out z) (by rw [HVL.out]; rfl) y21
      refine opIn_run_g (v := .int .i64 (i : Int)) (w' := w') (j := 21) (b := false) rfl rfl (by simp [yielded, many_some hgN (show 199 < 254 by decide) e199]) (fun c h => by cases h) (fun _ => trivial) ?_ ⟨z, by exact many_put3 (HOK.out _) (by rw [HVL.out]; rfl) hL, hph⟩
      go_simp
    · skip
      have y21 : L 21 = true := up_at hu 21 (by kernel_rfl)
      have y22 : L 22 = true := up_at hu 22 (by kernel_rfl)
      have y23 : L 23 = true := up_at hu 23 (by kernel_rfl)
      have e199 : (many gg_ L (VL z))[199]?.getD undef = .bool false := many_eval3 hgN (HOK.out z) (by rw [HVL.out]; rfl) y21
      have e200 : (many gg_ L (VL z))[200]?.getD undef = .slice (some ⟨g5, o5, none⟩) bl C5 := many_eval3 hgN (HOK.out z) (by rw [HVL.out]; rfl) y22
      have e201 : (many gg_ L (VL z))[201]?.getD undef = .int .i64 (i : Int) := many_eval3 hgN (HOK.out z) (by rw [HVL.out]; rfl) y23
      refine opIn_run_g (v := .pointer (some ⟨g5, o5 + i * 4, none⟩)) (w' := w') (j := 21) (b := false) rfl rfl (by simp [yielded, many_some hgN (show 199 < 254 by decide) e199]) (fun c h => by cases h) (fun _ => trivial) ?_ ⟨z, by exact many_put3 (HOK.out _) (by rw [HVL.out]; rfl) hL, hph⟩
      go_simp
    · skip
      have y21 : L 21 = true := up_at hu 21 (by kernel_rfl)
      have y24 : L 24 = true := up_at hu 24 (by kernel_rfl)
      have e199 : (many gg_ L (VL z))[199]?.getD undef = .bool false := many_eval3 hgN (HOK.out z) (by rw [HVL.out]; rfl) y21
      have e202 : (many gg_ L (VL z))[202]?.getD undef = .pointer (some ⟨g5, o5 + i * 4, none⟩) := many_eval3 hgN (HOK.out z) (by rw [HVL.out]; rfl) y24
      refine opIn_run_g (v := .pointer (some ⟨g5, o5 + i * 4 + 1, none⟩)) (w' := w') (j := 21) (b := false) rfl rfl (by simp [yielded, many_some hgN (show 199 < 254 by decide) e199]) (fun c h => by cases h) (fun _ => trivial) ?_ ⟨z, by exact many_put3 (HOK.out _) (by rw [HVL.out]; rfl) hL, hph⟩
      go_simp
    · skip
      have y21 : L 21 = true := up_at hu 21 (by kernel_rfl)
      have y25 : L 25 = true := up_at hu 25 (by kernel_rfl)
      have hcell : w'.cell? ⟨g5, o5 + i * 4 + 1, none⟩ = some (.int .i64 c1) := (hph.cell (p := ⟨g5, o5 + i * 4 + 1, none⟩) HW6.out).trans x1'
      have e199 : (many gg_ L (VL z))[199]?.getD undef = .bool false := many_eval3 hgN (HOK.out z) (by rw [HVL.out]; rfl) y21
      have e203 : (many gg_ L (VL z))[203]?.getD undef = .pointer (some ⟨g5, o5 + i * 4 + 1, none⟩) := many_eval3 hgN (HOK.out z) (by rw [HVL.out]; rfl) y25
      refine opIn_run_g (v := .int .i64 c1) (w' := w') (j := 21) (b := false) rfl rfl (by simp [yielded, many_some hgN (show 199 < 254 by decide) e199]) (fun c h => by cases h) (fun _ => trivial) ?_ ⟨z, by exact many_put3 (HOK.out _) (by rw [HVL.out]; rfl) hL, hph⟩
      go_simp
    · skip
      have y21 : L 21 = true := up_at hu 21 (by kernel_rfl)
      have e19 : (many gg_ L (VL z))[19]?.getD undef = .slice (some ⟨g5, o5, none⟩) bl C5 := many_out3 hgN (HOK.out z) (by rw [HVL.out]; rfl) hF19
      have e199 : (many gg_ L (VL z))[199]?.getD undef = .bool false := many_eval3 hgN (HOK.out z) (by rw [HVL.out]; rfl) y21
      refine opIn_run_g (v := .slice (some ⟨g5, o5, none⟩) bl C5) (w' := w') (j := 21) (b := false) rfl rfl (by simp [yielded, many_some hgN (show 199 < 254 by decide) e199]) (fun c h => by cases h) (fun _ => trivial) ?_ ⟨z, by exact many_put3 (HOK.out _) (by rw [HVL.out]; rfl) hL, hph⟩
      go_simp
    · skip
      have y21 : L 21 = true := up_at hu 21 (by kernel_rfl)
      have e21 : (many gg_ L (VL z))[21]?.getD undef = .int .i64 (i : Int) := many_out3 hgN (HOK.out z) (by rw [HVL.out]; rfl) hF21
      have e199 : (many gg_ L (VL z))[199]?.getD undef = .bool false := many_eval3 hgN (HOK.out z) (by rw [HVL.out]; rfl) y21
      refine opIn_run_g (v := .int .i64 (i : Int)) (w' := w') (j := 21) (b := false) rfl rfl (by simp [yielded, many_some hgN (show 199 < 254 by decide) e199]) (fun c h => by cases h) (fun _ => trivial) ?_ ⟨z, by exact many_put3 (HOK.out _) (by rw [HVL.out]; rfl) hL, hph⟩
      go_simp
    · skip
      have y21 : L 21 = true := up_at hu 21 (by kernel_rfl)
      have y28 : L 28 = true := up_at hu 28 (by kernel_rfl)
      have q := HWL.out
      have e199 : (many gg_ L (VL z))[199]?.getD undef = .bool false := many_eval3 hgN (HOK.out z) (by rw [HVL.out]; rfl) y21
      have e206 : (many gg_ L (VL z))[206]?.getD undef = .int .i64 (i : Int) := many_eval3 hgN (HOK.out z) (by rw [HVL.out]; rfl) y28
      refine opIn_run_g (v := .int .i64 (j1 : Int)) (w' := w') (j := 21) (b := false) rfl rfl (by simp [yielded, many_some hgN (show 199 < 254 by decide) e199]) (fun c h => by cases h) (fun _ => trivial) ?_ ⟨z, by exact many_put3 (HOK.out _) (by rw [HVL.out]; rfl) hL, hph⟩
      go_simp
    · skip
      have y21 : L 21 = true := up_at hu 21 (by kernel_rfl)
      have y27 : L 27 = true := up_at hu 27 (by kernel_rfl)
      have y29 : L 29 = true := up_at hu 29 (by kernel_rfl)
      have e199 : (many gg_ L (VL z))[199]?.getD undef = .bool false := many_eval3 hgN (HOK.out z) (by rw [HVL.out]; rfl) y21
      have e205 : (many gg_ L (VL z))[205]?.getD undef = .slice (some ⟨g5, o5, none⟩) bl C5 := many_eval3 hgN (HOK.out z) (by rw [HVL.out]; rfl) y27
      have e207 : (many gg_ L (VL z))[207]?.getD undef = .int .i64 (j1 : Int) := many_eval3 hgN (HOK.out z) (by rw [HVL.out]; rfl) y29
      refine opIn_run_g (v := .pointer (some ⟨g5, o5 + j1 * 4, none⟩)) (w' := w') (j := 21) (b := false) rfl rfl (by simp [yielded, many_some hgN (show 199 < 254 by decide) e199]) (fun c h => by cases h) (fun _ => trivial) ?_ ⟨z, by exact many_put3 (HOK.out _) (by rw [HVL.out]; rfl) hL, hph⟩
      go_simp
    · skip
      have y21 : L 21 = true := up_at hu 21 (by kernel_rfl)
      have y30 : L 30 = true := up_at hu 30 (by kernel_rfl)
      have e199 : (many gg_ L (VL z))[199]?.getD undef = .bool false := many_eval3 hgN (HOK.out z) (by rw [HVL.out]; rfl) y21
      have e208 : (many gg_ L (VL z))[208]?.getD undef = .pointer (some ⟨g5, o5 + j1 * 4, none⟩) := many_eval3 hgN (HOK.out z) (by rw [HVL.out]; rfl) y30
      refine opIn_run_g (v := .pointer (some ⟨g5, o5 + j1 * 4 + 1, none⟩)) (w' := w') (j := 21) (b := false) rfl rfl (by simp [yielded, many_some hgN (show 199 < 254 by decide) e199]) (fun c h => by cases h) (fun _ => trivial) ?_ ⟨z, by exact many_put3 (HOK.out _) (by rw [HVL.out]; rfl) hL, hph⟩
      go_simp
    · skip
      have y21 : L 21 = true := up_at hu 21 (by kernel_rfl)
      have y31 : L 31 = true := up_at hu 31 (by kernel_rfl)
      have hcell : w'.cell? ⟨g5, o5 + j1 * 4 + 1, none⟩ = some (.int .i64 c1) := (hph.cell (p := ⟨g5, o5 + j1 * 4 + 1, none⟩) HW6.out).trans q1
      have e199 : (many gg_ L (VL z))[199]?.getD undef = .bool false := many_eval3 hgN (HOK.out z) (by rw [HVL.out]; rfl) y21
      have e209 : (many gg_ L (VL z))[209]?.getD undef = .pointer (some ⟨g5, o5 + j1 * 4 + 1, none⟩) := many_eval3 hgN (HOK.out z) (by rw [HVL.out]; rfl) y31
      refine opIn_run_g (v := .int .i64 c1) (w' := w') (j := 21) (b := false) rfl rfl (by simp [yielded, many_some hgN (show 199 < 254 by decide) e199]) (fun c h => by cases h) (fun _ => trivial) ?_ ⟨z, by exact many_put3 (HOK.out _) (by rw [HVL.out]; rfl) hL, hph⟩
      go_simp
    · skip
      have y21 : L 21 = true := up_at hu 21 (by kernel_rfl)
      have y26 : L 26 = true := up_at hu 26 (by kernel_rfl)
      have y32 : L 32 = true := up_at hu 32 (by kernel_rfl)
      have e199 : (many gg_ L (VL z))[199]?.getD undef = .bool false := many_eval3 hgN (HOK.out z) (by rw [HVL.out]; rfl) y21
      have e204 : (many gg_ L (VL z))[204]?.getD undef = .int .i64 c1 := many_eval3 hgN (HOK.out z) (by rw [HVL.out]; rfl) y26
      have e210 : (many gg_ L (VL z))[210]?.getD undef = .int .i64 c1 := many_eval3 hgN (HOK.out z) (by rw [HVL.out]; rfl) y32
      refine opIn_run_g (v := .bool false) (w' := w') (j := 21) (b := false) rfl rfl (by simp [yielded, many_some hgN (show 199 < 254 by decide) e199]) (fun c h => by cases h) (fun _ => trivial) ?_ ⟨z, by exact many_put3 (HOK.out _) (by rw [HVL.out]; rfl) hL, hph⟩
      go_simp
    · skip
      have y8 : L 8 = true := up_at hu 8 (by kernel_rfl)
      have y21 : L 21 = true := up_at hu 21 (by kernel_rfl)
      have y33 : L 33 = true := up_at hu 33 (by kernel_rfl)
      have e186 : (many gg_ L (VL z))[186]?.getD undef = .bool true := many_eval3 hgN (HOK.out z) (by rw [HVL.out]; rfl) y8
      have e199 : (many gg_ L (VL z))[199]?.getD undef = .bool false := many_eval3 hgN (HOK.out z) (by rw [HVL.out]; rfl) y21
      have e211 : (many gg_ L (VL z))[211]?.getD undef = .bool false := many_eval3 hgN (HOK.out z) (by rw [HVL.out]; rfl) y33
      refine opIn_run_g (v := .bool false) (w' := w') (j := 8) (b := true) rfl rfl (by simp [yielded, many_some hgN (show 186 < 254 by decide) e186]) (fun c h => by cases h) (fun _ => trivial) ?_ ⟨z, by exact many_put3 (HOK.out _) (by rw [HVL.out]; rfl) hL, hph⟩
      go_simp
    · skip
      have y8 : L 8 = true := up_at hu 8 (by kernel_rfl)
      have y34 : L 34 = true := up_at hu 34 (by kernel_rfl)
      have e186 : (many gg_ L (VL z))[186]?.getD undef = .bool true := many_eval3 hgN (HOK.out z) (by rw [HVL.out]; rfl) y8
      have e212 : (many gg_ L (VL z))[212]?.getD undef = .bool false := many_eval3 hgN (HOK.out z) (by rw [HVL.out]; rfl) y34
      refine opIn_run (v := .bool false) (w' := w') rfl rfl (fun c h => by cases h) (fun _ => trivial) ?_ ⟨z, by exact many_put3 (HOK.out _) (by rw [HVL.out]; rfl) hL, hph⟩
      go_simp
    · skip
      have y21 : L 21 = true := up_at hu 21 (by kernel_rfl)
      have y35 : L 35 = true := up_at hu 35 (by kernel_rfl)
      have e213 : (many gg_ L (VL z))[213]?.getD undef = .bool false := many_eval3 hgN (HOK.out z) (by rw [HVL.out]; rfl) y35
      refine opIn_run (v := .bool false) (w' := w') rfl rfl (fun c h => by cases h) (fun _ => trivial) ?_ ⟨z, by exact many_put3 (HOK.out _) (by rw [HVL.out]; rfl) hL, hph⟩
      go_simp
    · skip
      have y36 : L 36 = true := up_at hu 36 (by kernel_rfl)
      have e21 : (many gg_ L (VL z))[21]?.getD undef = .int .i64 (i : Int) := many_out3 hgN (HOK.out z) (by rw [HVL.out]; rfl) hF21
      have e214 : (many gg_ L (VL z))[214]?.getD undef = .bool false := many_eval3 hgN (HOK.out z) (by rw [HVL.out]; rfl) y36
      refine opIn_run_g (v := .int .i64 (i : Int)) (w' := w') (j := 36) (b := false) rfl rfl (by simp [yielded, many_some hgN (show 214 < 254 by decide) e214]) (fun c h => by cases h) (fun _ => trivial) ?_ ⟨z, by exact many_put3 (HOK.out _) (by rw [HVL.out]; rfl) hL, hph⟩
      go_simp
    · skip
      have y36 : L 36 = true := up_at hu 36 (by kernel_rfl)
      have e20 : (many gg_ L (VL z))[20]?.getD undef = .int .i64 bwd := many_out3 hgN (HOK.out z) (by rw [HVL.out]; rfl) hF20
      have e214 : (many gg_ L (VL z))[214]?.getD undef = .bool false := many_eval3 hgN (HOK.out z) (by rw [HVL.out]; rfl) y36
      refine opIn_run_g (v := .int .i64 bwd) (w' := w') (j := 36) (b := false) rfl rfl (by simp [yielded, many_some hgN (show 214 < 254 by decide) e214]) (fun c h => by cases h) (fun _ => trivial) ?_ ⟨z, by exact many_put3 (HOK.out _) (by rw [HVL.out]; rfl) hL, hph⟩
      go_simp
    · skip
      have y36 : L 36 = true := up_at hu 36 (by kernel_rfl)
      have y37 : L 37 = true := up_at hu 37 (by kernel_rfl)
      have y38 : L 38 = true := up_at hu 38 (by kernel_rfl)
      have e214 : (many gg_ L (VL z))[214]?.getD undef = .bool false := many_eval3 hgN (HOK.out z) (by rw [HVL.out]; rfl) y36
      have e215 : (many gg_ L (VL z))[215]?.getD undef = .int .i64 (i : Int) := many_eval3 hgN (HOK.out z) (by rw [HVL.out]; rfl) y37
      have e216 : (many gg_ L (VL z))[216]?.getD undef = .int .i64 bwd := many_eval3 hgN (HOK.out z) (by rw [HVL.out]; rfl) y38
      refine opIn_run_g (v := .bool false) (w' := w') (j := 36) (b := false) rfl rfl (by simp [yielded, many_some hgN (show 214 < 254 by decide) e214]) (fun c h => by cases h) (fun _ => trivial) ?_ ⟨z, by exact many_put3 (HOK.out _) (by rw [HVL.out]; rfl) hL, hph⟩
      go_simp
    · skip
      have y36 : L 36 = true := up_at hu 36 (by kernel_rfl)
      have y39 : L 39 = true := up_at hu 39 (by kernel_rfl)
      have e214 : (many gg_ L (VL z))[214]?.getD undef = .bool false := many_eval3 hgN (HOK.out z) (by rw [HVL.out]; rfl) y36
      have e217 : (many gg_ L (VL z))[217]?.getD undef = .bool false := many_eval3 hgN (HOK.out z) (by rw [HVL.out]; rfl) y39
      refine opIn_run_g (v := .bool false) (w' := w') (j := 36) (b := false) rfl rfl (by simp [yielded, many_some hgN (show 214 < 254 by decide) e214]) (fun c h => by cases h) (fun _ => trivial) ?_ ⟨z, by exact many_put3 (HOK.out _) (by rw [HVL.out]; rfl) hL, hph⟩
      go_simp
    · skip
      have y40 : L 40 = true := up_at hu 40 (by kernel_rfl)
      have e19 : (many gg_ L (VL z))[19]?.getD undef = .slice (some ⟨g5, o5, none⟩) bl C5 := many_out3 hgN (HOK.out z) (by rw [HVL.out]; rfl) hF19
      have e218 : (many gg_ L (VL z))[218]?.getD undef = .bool false := many_eval3 hgN (HOK.out z) (by rw [HVL.out]; rfl) y40
      exact opIn_not_g (j := 40) (b := true) (c := false) rfl rfl (by simp [yielded, many_some hgN (show 218 < 254 by decide) e218]) (by decide) (fun _ => trivial) ⟨z, by exact many_put3 (HOK.out _) (by rw [HVL.out]; rfl) hL, hph⟩
    · skip
      have y40 : L 40 = true := up_at hu 40 (by kernel_rfl)
      have e21 : (many gg_ L (VL z))[21]?.getD undef = .int .i64 (i : Int) := many_out3 hgN (HOK.out z) (by rw [HVL.out]; rfl) hF21
      have e218 : (many gg_ L (VL z))[218]?.getD undef = .bool false := many_eval3 hgN (HOK.out z) (by rw [HVL.out]; rfl) y40
      exact opIn_not_g (j := 40) (b := true) (c := false) rfl rfl (by simp [yielded, many_some hgN (show 218 < 254 by decide) e218]) (by decide) (fun _ => trivial) ⟨z, by exact many_put3 (HOK.out _) (by rw [HVL.out]; rfl) hL, hph⟩
    · skip
      have y40 : L 40 = true := up_at hu 40 (by kernel_rfl)
      have y41 : L 41 = true := up_at hu 41 (by kernel_rfl)
      have y42 : L 42 = true := up_at hu 42 (by kernel_rfl)
      have e218 : (many gg_ L (VL z))[218]?.getD undef = .bool false := many_eval3 hgN (HOK.out z) (by rw [HVL.out]; rfl) y40
      have e219 : (many gg_ L (VL z))[219]?.getD undef = undef := many_eval3 hgN (HOK.out z) (by rw [HVL.out]; rfl) y41
      have e220 : (many gg_ L (VL z))[220]?.getD undef = undef := many_eval3 hgN (HOK.out z) (by rw [HVL.out]; rfl) y42
      exact opIn_not_g (j := 40) (b := true) (c := false) rfl rfl (by simp [yielded, many_some hgN (show 218 < 254 by decide) e218]) (by decide) (fun _ => trivial) ⟨z, by exact many_put3 (HOK.out _) (by rw [HVL.out]; rfl) hL, hph⟩
    · skip
      have y40 : L 40 = true := up_at hu 40 (by kernel_rfl)
      have y43 : L 43 = true := up_at hu 43 (by kernel_rfl)
      have e218 : (many gg_ L (VL z))[218]?.getD undef = .bool false := many_eval3 hgN (HOK.out z) (by rw [HVL.out]; rfl) y40
      have e221 : (many gg_ L (VL z))[221]?.getD undef = undef := many_eval3 hgN (HOK.out z) (by rw [HVL.out]; rfl) y43
      exact opIn_not_g (j := 40) (b := true) (c := false) rfl rfl (by simp [yielded, many_some hgN (show 218 < 254 by decide) e218]) (by decide) (fun _ => trivial) ⟨z, by exact many_put3 (HOK.out _) (by rw [HVL.out]; rfl) hL, hph⟩
    · skip
      have y40 : L 40 = true := up_at hu 40 (by kernel_rfl)
      have y44 : L 44 = true := up_at hu 44 (by kernel_rfl)
      have e218 : (many gg_ L (VL z))[218]?.getD undef = .bool false := many_eval3 hgN (HOK.out z) (by rw [HVL.out]; rfl) y40
      have e222 : (many gg_ L (VL z))[222]?.getD undef = undef := many_eval3 hgN (HOK.out z) (by rw [HVL.out]; rfl) y44
      exact opIn_not_g (j := 40) (b := true) (c := false) rfl rfl (by simp [yielded, many_some hgN (show 218 < 254 by decide) e218]) (by decide) (fun _ => trivial) ⟨z, by exact many_put3 (HOK.out _) (by rw [HVL.out]; rfl) hL, hph⟩
    · skip
      have y40 : L 40 = true := up_at hu 40 (by kernel_rfl)
      have e19 : (many gg_ L (VL z))[19]?.getD undef = .slice (some ⟨g5, o5, none⟩) bl C5 := many_out3 hgN (HOK.out z) (by rw [HVL.out]; rfl) hF19
      have e218 : (many gg_ L (VL z))[218]?.getD undef = .bool false := many_eval3 hgN (HOK.out z) (by rw [HVL.out]; rfl) y40
      exact opIn_not_g (j := 40) (b := true) (c := false) rfl rfl (by simp [yielded, many_some hgN (show 218 < 254 by decide) e218]) (by decide) (fun _ => trivial) ⟨z, by exact many_put3 (HOK.out _) (by rw [HVL.out]; rfl) hL, hph⟩
    · skip
      have y40 : L 40 = true := up_at hu 40 (by kernel_rfl)
      have e21 : (many gg_ L (VL z))[21]?.getD undef = .int .i64 (i : Int) := many_out3 hgN (HOK.out z) (by rw [HVL.out]; rfl) hF21
      have e218 : (many gg_ L (VL z))[218]?.getD undef = .bool false := many_eval3 hgN (HOK.out z) (by rw [HVL.out]; rfl) y40
      exact opIn_not_g (j := 40) (b := true) (c := false) rfl rfl (by simp [yielded, many_some hgN (show 218 < 254 by decide) e218]) (by decide) (fun _ => trivial) ⟨z, by exact many_put3 (HOK.out _) (by rw [HVL.out]; rfl) hL, hph⟩
    · skip
      have y40 : L 40 = true := up_at hu 40 (by kernel_rfl)
      have e20 : (many gg_ L (VL z))[20]?.getD undef = .int .i64 bwd := many_out3 hgN (HOK.out z) (by rw [HVL.out]; rfl) hF20
      have e218 : (many gg_ L (VL z))[218]?.getD undef = .bool false := many_eval3 hgN (HOK.out z) (by rw [HVL.out]; rfl) y40
      exact opIn_not_g (j := 40) (b := true) (c := false) rfl rfl (by simp [yielded, many_some hgN (show 218 < 254 by decide) e218]) (by decide) (fun _ => trivial) ⟨z, by exact many_put3 (HOK.out _) (by rw [HVL.out]; rfl) hL, hph⟩
    · skip
      have y40 : L 40 = true := up_at hu 40 (by kernel_rfl)
      have y47 : L 47 = true := up_at hu 47 (by kernel_rfl)
      have y48 : L 48 = true := up_at hu 48 (by kernel_rfl)
      have e218 : (many gg_ L (VL z))[218]?.getD undef = .bool false := many_eval3 hgN (HOK.out z) (by rw [HVL.out]; rfl) y40
      have e225 : (many gg_ L (VL z))[225]?.getD undef = undef := many_eval3 hgN (HOK.out z) (by rw [HVL.out]; rfl) y47
      have e226 : (many gg_ L (VL z))[226]?.getD undef = undef := many_eval3 hgN (HOK.out z) (by rw [HVL.out]; rfl) y48
      exact opIn_not_g (j := 40) (b := true) (c := false) rfl rfl (by simp [yielded, many_some hgN (show 218 < 254 by decide) e218]) (by decide) (fun _ => trivial) ⟨z, by exact many_put3 (HOK.out _) (by rw [HVL.out]; rfl) hL, hph⟩
    · skip
      have y40 : L 40 = true := up_at hu 40 (by kernel_rfl)
      have y46 : L 46 = true := up_at hu 46 (by kernel_rfl)
      have y49 : L 49 = true := up_at hu 49 (by kernel_rfl)
      have e218 : (many gg_ L (VL z))[218]?.getD undef = .bool false := many_eval3 hgN (HOK.out z) (by rw [HVL.out]; rfl) y40
      have e224 : (many gg_ L (VL z))[224]?.getD undef = undef := many_eval3 hgN (HOK.out z) (by rw [HVL.out]; rfl) y46
      have e227 : (many gg_ L (VL z))[227]?.getD undef = undef := many_eval3 hgN (HOK.out z) (by rw [HVL.out]; rfl) y49
      exact opIn_not_g (j := 40) (b := true) (c := false) rfl rfl (by simp [yielded, many_some hgN (show 218 < 254 by decide) e218]) (by decide) (fun _ => trivial) ⟨z, by exact many_put3 (HOK.out _) (by rw [HVL.out]; rfl) hL, hph⟩
    · skip
      have y40 : L 40 = true := up_at hu 40 (by kernel_rfl)
      have y50 : L 50 = true := up_at hu 50 (by kernel_rfl)
      have e218 : (many gg_ L (VL z))[218]?.getD undef = .bool false := many_eval3 hgN (HOK.out z) (by rw [HVL.out]; rfl) y40
      have e228 : (many gg_ L (VL z))[228]?.getD undef = undef := many_eval3 hgN (HOK.out z) (by rw [HVL.out]; rfl) y50
      exact opIn_not_g (j := 40) (b := true) (c := false) rfl rfl (by simp [yielded, many_some hgN (show 218 < 254 by decide) e218]) (by decide) (fun _ => trivial) ⟨z, by exact many_put3 (HOK.out _) (by rw [HVL.out]; rfl) hL, hph⟩
    · skip
      have y40 : L 40 = true := up_at hu 40 (by kernel_rfl)
      have y51 : L 51 = true := up_at hu 51 (by kernel_rfl)
      have e218 : (many gg_ L (VL z))[218]?.getD undef = .bool false := many_eval3 hgN (HOK.out z) (by rw [HVL.out]; rfl) y40
      have e229 : (many gg_ L (VL z))[229]?.getD undef = undef := many_eval3 hgN (HOK.out z) (by rw [HVL.out]; rfl) y51
      exact opIn_not_g (j := 40) (b := true) (c := false) rfl rfl (by simp [yielded, many_some hgN (show 218 < 254 by decide) e218]) (by decide) (fun _ => trivial) ⟨z, by exact many_put3 (HOK.out _) (by rw [HVL.out]; rfl) hL, hph⟩
    · skip
      have y40 : L 40 = true := up_at hu 40 (by kernel_rfl)
      have y45 : L 45 = true := up_at hu 45 (by kernel_rfl)
      have y52 : L 52 = true := up_at hu 52 (by kernel_rfl)
      have e218 : (many gg_ L (VL z))[218]?.getD undef = .bool false := many_eval3 hgN (HOK.out z) (by rw [HVL.out]; rfl) y40
      have e223 : (many gg_ L (VL z))[223]?.getD undef = undef := many_eval3 hgN (HOK.out z) (by rw [HVL.out]; rfl) y45
      have e230 : (many gg_ L (VL z))[230]?.getD undef = undef := many_eval3 hgN (HOK.out z) (by rw [HVL.out]; rfl) y52
      exact opIn_not_g (j := 40) (b := true) (c := false) rfl rfl (by simp [yielded, many_some hgN (show 218 < 254 by decide) e218]) (by decide) (fun _ => trivial) ⟨z, by exact many_put3 (HOK.out _) (by rw [HVL.out]; rfl) hL, hph⟩
    · skip
      have y36 : L 36 = true := up_at hu 36 (by kernel_rfl)
      have y40 : L 40 = true := up_at hu 40 (by kernel_rfl)
      have y53 : L 53 = true := up_at hu 53 (by kernel_rfl)
      have e214 : (many gg_ L (VL z))[214]?.getD undef = .bool false := many_eval3 hgN (HOK.out z) (by rw [HVL.out]; rfl) y36
      have e218 : (many gg_ L (VL z))[218]?.getD undef = .bool false := many_eval3 hgN (HOK.out z) (by rw [HVL.out]; rfl) y40
      have e231 : (many gg_ L (VL z))[231]?.getD undef = undef := many_eval3 hgN (HOK.out z) (by rw [HVL.out]; rfl) y53
      refine opIn_run_g (v := .bool false) (w' := w') (j := 36) (b := false) rfl rfl (by simp [yielded, many_some hgN (show 214 < 254 by decide) e214]) (fun c h => by cases h) (fun _ => trivial) ?_ ⟨z, by exact many_put3 (HOK.out _) (by rw [HVL.out]; rfl) hL, hph⟩
      go_simp
    · skip
      have y36 : L 36 = true := up_at hu 36 (by kernel_rfl)
      have y54 : L 54 = true := up_at hu 54 (by kernel_rfl)
      have e214 : (many gg_ L (VL z))[214]?.getD undef = .bool false := many_eval3 hgN (HOK.out z) (by rw [HVL.out]; rfl) y36
      have e232 : (many gg_ L (VL z))[232]?.getD undef = .bool false := many_eval3 hgN (HOK.out z) (by rw [HVL.out]; rfl) y54
      refine opIn_run (v := .bool false) (w' := w') rfl rfl (fun c h => by cases h) (fun _ => trivial) ?_ ⟨z, by exact many_put3 (HOK.out _) (by rw [HVL.out]; rfl) hL, hph⟩
      go_simp
  case fin =>
    intro L z w' hall hph
    rw [HVL.out]
    exact hQ _ hph
set_option maxHeartbeats 8000000 in
theorem cbReg24d (g5 o5 bl C5 i j1 j2 md : Nat) (bwd c0 c1 : Int) (W6 : World) (hiI : (i : Int) < (bl : Int) ∧ (0 : Int) ≤ (i : Int)) (i1 : (0 : Int) < (i : Int)) (i1n : 0 < i) (HMD : Hid ((i : Int).tmod bwd = (md : Int))) (bw0 : ¬ bwd = 0) (HMD0 : Hid (0 < md)) (w1 : bwd ≤ (i : Int)) (HW6 : Hid (g5 < W6.heap.size)) (x0' : W6.cell? ⟨g5, o5 + i * 4, none⟩ = some (.int .i64 c0)) (x1' : W6.cell? ⟨g5, o5 + i * 4 + 1, none⟩ = some (.int .i64 c1)) (bl1 : (j1 : Int) < (bl : Int) ∧ (0 : Int) ≤ (j1 : Int)) (HWL : Hid (IntKind.i64.wrap ((i : Int) - 1) = (j1 : Int))) (q2 : W6.cell? ⟨g5, o5 + j1 * 4 + 2, none⟩ = some (.int .i64 c0)) (q1 : W6.cell? ⟨g5, o5 + j1 * 4 + 1, none⟩ = some (.int .i64 c1)) (bu1 : (j2 : Int) < (bl : Int) ∧ (0 : Int) ≤ (j2 : Int)) (HWU : Hid (IntKind.i64.wrap ((i : Int) - bwd) = (j2 : Int))) (q3' : W6.cell? ⟨g5, o5 + j2 * 4 + 3, none⟩ = some (.int .i64 c1)) (fl : List Value) (hfl : fl.length = 254) (hf19 : fl.getD 19 undef = .slice (some ⟨g5, o5, none⟩) bl C5) (hf20 : fl.getD 20 undef = .int .i64 bwd) (hf21 : fl.getD 21 undef = .int .i64 (i : Int)) {Q : Exit → Act → World → Prop} (hQ : ∀ w', Below W6.heap.size W6 w' → Q .normal ⟨(manyL fl [(0, 178, .int .i64 (i : Int)), (1, 179, .bool true), (2, 180, .bool true), (3, 181, .int .i64 (i : Int)), (4, 182, .int .i64 bwd), (5, 183, .int .i64 (md : Int)), (6, 184, .bool true), (7, 185, .bool true), (8, 186, .bool true), (9, 187, .slice (some ⟨g5, o5, none⟩) bl C5), (10, 188, .int .i64 (i : Int)), (11, 189, .pointer (some ⟨g5, o5 + i * 4, none⟩)), (12, 190, .pointer (some ⟨g5, o5 + i * 4, none⟩)), (13, 191, .int .i64 c0), (14, 192, .slice (some ⟨g5, o5, none⟩) bl C5), (15, 193, .int .i64 (i : Int)), (16, 194, .int .i64 (j1 : Int)), (17, 195, .pointer (some ⟨g5, o5 + j1 * 4, none⟩)), (18, 196, .pointer (some ⟨g5, o5 + j1 * 4 + 2, none⟩)), (19, 197, .int .i64 c0), (20, 198, .bool false), (21, 199, .bool false), (22, 200, .slice (some ⟨g5, o5, none⟩) bl C5), (23, 201, .int .i64 (i : Int)), (24, 202, .pointer (some ⟨g5, o5 + i * 4, none⟩)), (25, 203, .pointer (some ⟨g5, o5 + i * 4 + 1, none⟩)), (26, 204, .int .i64 c1), (27, 205, .slice (some ⟨g5, o5, none⟩) bl C5), (28, 206, .int .i64 (i : Int)), (29, 207, .int .i64 (j1 : Int)), (30, 208, .pointer (some ⟨g5, o5 + j1 * 4, none⟩)), (31, 209, .pointer (some ⟨g5, o5 + j1 * 4 + 1, none⟩)), (32, 210, .int .i64 c1), (33, 211, .bool false), (34, 212, .bool false), (35, 213, .bool false), (36, 214, .bool false), (37, 215, .int .i64 (i : Int)), (38, 216, .int .i64 bwd), (39, 217, .bool true), (40, 218, .bool true), (41, 219, .slice (some ⟨g5, o5, none⟩) bl C5), (42, 220, .int .i64 (i : Int)), (43, 221, .pointer (some ⟨g5, o5 + i * 4, none⟩)), (44, 222, .pointer (some ⟨g5, o5 + i * 4 + 1, none⟩)), (45, 223, .int .i64 c1), (46, 224, .slice (some ⟨g5, o5, none⟩) bl C5), (47, 225, .int .i64 (i : Int)), (48, 226, .int .i64 bwd), (49, 227, .int .i64 (j2 : Int)), (50, 228, .pointer (some ⟨g5, o5 + j2 * 4, none⟩)), (51, 229, .pointer (some ⟨g5, o5 + j2 * 4 + 3, none⟩)), (52, 230, .int .i64 c1), (53, 231, .bool false), (54, 232, .bool false), (55, 233, .bool false)]).toArray, []⟩ w') :
    (Code.region 24 (regOps Try.f9 24) true).wp Try.prog Q ⟨fl.toArray, []⟩ W6 := by
  obtain ⟨o_, ho_⟩ : ∃ o, regOps Try.f9 24 = o := ⟨_, rfl⟩
  rw [ho_]
  conv at ho_ => lhs; whnf
  subst ho_
  obtain ⟨VL, hVL⟩ : ∃ VL : Unit → List (Nat × Nat × Value), VL = fun z => [(0, 178, .int .i64 (i : Int)), (1, 179, .bool true), (2, 180, .bool true), (3, 181, .int .i64 (i : Int)), (4, 182, .int .i64 bwd), (5, 183, .int .i64 (md : Int)), (6, 184, .bool true), (7, 185, .bool true), (8, 186, .bool true), (9, 187, .slice (some ⟨g5, o5, none⟩) bl C5), (10, 188, .int .i64 (i : Int)), (11, 189, .pointer (some ⟨g5, o5 + i * 4, none⟩)), (12, 190, .pointer (some ⟨g5, o5 + i * 4, none⟩)), (13, 191, .int .i64 c0), (14, 192, .slice (some ⟨g5, o5, none⟩) bl C5), (15, 193, .int .i64 (i : Int)), (16, 194, .int .i64 (j1 : Int)), (17, 195, .pointer (some ⟨g5, o5 + j1 * 4, none⟩)), (18, 196, .pointer (some ⟨g5, o5 + j1 * 4 + 2, none⟩)), (19, 197, .int .i64 c0), (20, 198, .bool false), (21, 199, .bool false), (22, 200, .slice (some ⟨g5, o5, none⟩) bl C5), (23, 201, .int .i64 (i : Int)), (24, 202, .pointer (some ⟨g5, o5 + i * 4, none⟩)), (25, 203, .pointer (some ⟨g5, o5 + i * 4 + 1, none⟩)), (26, 204, .int .i64 c1), (27, 205, .slice (some ⟨g5, o5, none⟩) bl C5), (28, 206, .int .i64 (i : Int)), (29, 207, .int .i64 (j1 : Int)), (30, 208, .pointer (some ⟨g5, o5 + j1 * 4, none⟩)), (31, 209, .pointer (some ⟨g5, o5 + j1 * 4 + 1, none⟩)), (32, 210, .int .i64 c1), (33, 211, .bool false), (34, 212, .bool false), (35, 213, .bool false), (36, 214, .bool false), (37, 215, .int .i64 (i : Int)), (38, 216, .int .i64 bwd), (39, 217, .bool true), (40, 218, .bool true), (41, 219, .slice (some ⟨g5, o5, none⟩) bl C5), (42, 220, .int .i64 (i : Int)), (43, 221, .pointer (some ⟨g5, o5 + i * 4, none⟩)), (44, 222, .pointer (some ⟨g5, o5 + i * 4 + 1, none⟩)), (45, 223, .int .i64 c1), (46, 224, .slice (some ⟨g5, o5, none⟩) bl C5), (47, 225, .int .i64 (i : Int)), (48, 226, .int .i64 bwd), (49, 227, .int .i64 (j2 : Int)), (50, 228, .pointer (some ⟨g5, o5 + j2 * 4, none⟩)), (51, 229, .pointer (some ⟨g5, o5 + j2 * 4 + 3, none⟩)), (52, 230, .int .i64 c1), (53, 231, .bool false), (54, 232, .bool false), (55, 233, .bool false)] := ⟨_, rfl⟩
  have hok : ∀ z, manyOk 254 (VL z) := fun z => by rw [hVL]; exact okB_ok rfl
  have HVL := Lib.hid hVL
  have hvi : ∀ z, ∀ x ∈ VL z, x.1 < 56 := fun z => by rw [hVL]; exact ltB_ok rfl
  have HOK := Lib.hid hok
  have HVI := Lib.hid hvi
  clear hVL hok hvi
  refine (wpIn_wide (n := 9)).1 (regionIn_many (N := 254) (w := W6) VL (fun L z w' => Below W6.heap.size W6 w') [(19, .slice (some ⟨g5, o5, none⟩) bl C5), (20, .int .i64 bwd), (21, .int .i64 (i : Int))] (by kernel_rfl) (by kernel_rfl) hfl (by simp only [List.forall_mem_cons, List.not_mem_nil, false_imp_iff, implies_true, and_true]; exact ⟨hf19, hf20, hf21⟩) HVI.out () ?start ?step ?fin)
  case start => exact (Below.refl _ _).drew
  case step =>
    intro gg_ hgN hgF ii_ hii_ L z w' hph hs hu
    have hF19 := hgF (19, .slice (some ⟨g5, o5, none⟩) bl C5) (by simp)
    have hF20 := hgF (20, .int .i64 bwd) (by simp)
    have hF21 := hgF (21, .int .i64 (i : Int)) (by simp)
    have hL := hu.1
    have hii_ : ii_ < 56 := hii_
    clear hgF
    obtain rfl | rfl | rfl | rfl | rfl | rfl | rfl | rfl | rfl | rfl | rfl | rfl | rfl | rfl | rfl | rfl | rfl | rfl | rfl | rfl | rfl | rfl | rfl | rfl | rfl | rfl | rfl | rfl | rfl | rfl | rfl | rfl | rfl | rfl | rfl | rfl | rfl | rfl | rfl | rfl | rfl | rfl | rfl | rfl | rfl | rfl | rfl | rfl | rfl | rfl | rfl | rfl | rfl | rfl | rfl | rfl := (by omega : ii_ = 0 ∨ ii_ = 1 ∨ ii_ = 2 ∨ ii_ = 3 ∨ ii_ = 4 ∨ ii_ = 5 ∨ ii_ = 6 ∨ ii_ = 7 ∨ ii_ = 8 ∨ ii_ = 9 ∨ ii_ = 10 ∨ ii_ = 11 ∨ ii_ = 12 ∨ ii_ = 13 ∨ ii_ = 14 ∨ ii_ = 15 ∨ ii_ = 16 ∨ ii_ = 17 ∨ ii_ = 18 ∨ ii_ = 19 ∨ ii_ = 20 ∨ ii_ = 21 ∨ ii_ = 22 ∨ ii_ = 23 ∨ ii_ = 24 ∨ ii_ = 25 ∨ ii_ = 26 ∨ ii_ = 27 ∨ ii_ = 28 ∨ ii_ = 29 ∨ ii_ = 30 ∨ ii_ = 31 ∨ ii_ = 32 ∨ ii_ = 33 ∨ ii_ = 34 ∨ ii_ = 35 ∨ ii_ = 36 ∨ ii_ = 37 ∨ ii_ = 38 ∨ ii_ = 39 ∨ ii_ = 40 ∨ ii_ = 41 ∨ ii_ = 42 ∨ ii_ = 43 ∨ ii_ = 44 ∨ ii_ = 45 ∨ ii_ = 46 ∨ ii_ = 47 ∨ ii_ = 48 ∨ ii_ = 49 ∨ ii_ = 50 ∨ ii_ = 51 ∨ ii_ = 52 ∨ ii_ = 53 ∨ ii_ = 54 ∨ ii_ = 55)
    · skip
      have e21 : (many gg_ L (VL z))[21]?.getD undef = .int .i64 (i : Int) := many_out3 hgN (HOK.out z) (by rw [HVL.out]; rfl) hF21
      refine opIn_run (v := .int .i64 (i : Int)) (w' := w') rfl rfl (fun c h => by cases h) (fun _ => trivial) ?_ ⟨z, by exact many_put3 (HOK.out _) (by rw [HVL.out]; rfl) hL, hph⟩
      go_simp
    · skip
      have y0 : L 0 = true := up_at hu 0 (by kernel_rfl)
      have e178 : (many gg_ L (VL z))[178]?.getD undef = .int .i64 (i : Int) := many_eval3 hgN (HOK.out z) (by rw [HVL.out]; rfl) y0
      refine opIn_run (v := .bool true) (w' := w') rfl rfl (fun c h => by cases h) (fun _ => trivial) ?_ ⟨z, by exact many_put3 (HOK.out _) (by rw [HVL.out]; rfl) hL, hph⟩
      go_simp
    · skip
      have y1 : L 1 = true := up_at hu 1 (by kernel_rfl)
      have e179 : (many gg_ L (VL z))[179]?.getD undef = .bool true := many_eval3 hgN (HOK.out z) (by rw [HVL.out]; rfl) y1
      refine opIn_run (v := .bool true) (w' := w') rfl rfl (fun c h => by cases h) (fun _ => trivial) ?_ ⟨z, by exact many_put3 (HOK.out _) (by rw [HVL.out]; rfl) hL, hph⟩
      go_simp
    · skip
      have y2 : L 2 = true := up_at hu 2 (by kernel_rfl)
      have e21 : (many gg_ L (VL z))[21]?.getD undef = .int .i64 (i : Int) := many_out3 hgN (HOK.out z) (by rw [HVL.out]; rfl) hF21
      have e180 : (many gg_ L (VL z))[180]?.getD undef = .bool true := many_eval3 hgN (HOK.out z) (by rw [HVL.out]; rfl) y2
      refine opIn_run_g (v := .int .i64 (i : Int)) (w' := w') (j := 2) (b := true) rfl rfl (by simp [yielded, many_some hgN (show 180 < 254 by decide) e180]) (fun c h => by cases h) (fun _ => trivial) ?_ ⟨z, by exact many_put3 (HOK.out _) (by rw [HVL.out]; rfl) hL, hph⟩
      go_simp
    · skip
      have y2 : L 2 = true := up_at hu 2 (by kernel_rfl)
      have e20 : (many gg_ L (VL z))[20]?.getD undef = .int .i64 bwd := many_out3 hgN (HOK.out z) (by rw [HVL.out]; rfl) hF20
      have e180 : (many gg_ L (VL z))[180]?.getD undef = .bool true := many_eval3 hgN (HOK.out z) (by rw [HVL.out]; rfl) y2
      refine opIn_run_g (v := .int .i64 bwd) (w' := w') (j := 2) (b := true) rfl rfl (by simp [yielded, many_some hgN (show 180 < 254 by decide) e180]) (fun c h => by cases h) (fun _ => trivial) ?_ ⟨z, by exact many_put3 (HOK.out _) (by rw [HVL.out]; rfl) hL, hph⟩
      go_simp
    · skip
      have y2 : L 2 = true := up_at hu 2 (by kernel_rfl)
      have y3 : L 3 = true := up_at hu 3 (by kernel_rfl)
      have y4 : L 4 = true := up_at hu 4 (by kernel_rfl)
      have e180 : (many gg_ L (VL z))[180]?.getD undef = .bool true := many_eval3 hgN (HOK.out z) (by rw [HVL.out]; rfl) y2
      have e181 : (many gg_ L (VL z))[181]?.getD undef = .int .i64 (i : Int) := many_eval3 hgN (HOK.out z) (by rw [HVL.out]; rfl) y3
      have e182 : (many gg_ L (VL z))[182]?.getD undef = .int .i64 bwd := many_eval3 hgN (HOK.out z) (by rw [HVL.out]; rfl) y4
      refine opIn_run_g (v := .int .i64 (md : Int)) (w' := w') (j := 2) (b := true) rfl rfl (by simp [yielded, many_some hgN (show 180 < 254 by decide) e180]) (fun c h => by cases h) (fun _ => trivial) ?_ ⟨z, by exact many_put3 (HOK.out _) (by rw [HVL.out]; rfl) hL, hph⟩
      go_simp
      exact HMD.out
    · skip
      have y2 : L 2 = true := up_at hu 2 (by kernel_rfl)
      have y5 : L 5 = true := up_at hu 5 (by kernel_rfl)
      have q := HMD0.out
      have e180 : (many gg_ L (VL z))[180]?.getD undef = .bool true := many_eval3 hgN (HOK.out z) (by rw [HVL.out]; rfl) y2
      have e183 : (many gg_ L (VL z))[183]?.getD undef = .int .i64 (md : Int) := many_eval3 hgN (HOK.out z) (by rw [HVL.out]; rfl) y5
      refine opIn_run_g (v := .bool true) (w' := w') (j := 2) (b := true) rfl rfl (by simp [yielded, many_some hgN (show 180 < 254 by decide) e180]) (fun c h => by cases h) (fun _ => trivial) ?_ ⟨z, by exact many_put3 (HOK.out _) (by rw [HVL.out]; rfl) hL, hph⟩
      go_simp
    · skip
      have y2 : L 2 = true := up_at hu 2 (by kernel_rfl)
      have y6 : L 6 = true := up_at hu 6 (by kernel_rfl)
      have e180 : (many gg_ L (VL z))[180]?.getD undef = .bool true := many_eval3 hgN (HOK.out z) (by rw [HVL.out]; rfl) y2
      have e184 : (many gg_ L (VL z))[184]?.getD undef = .bool true := many_eval3 hgN (HOK.out z) (by rw [HVL.out]; rfl) y6
      refine opIn_run (v := .bool true) (w' := w') rfl rfl (fun c h => by cases h) (fun _ => trivial) ?_ ⟨z, by exact many_put3 (HOK.out _) (by rw [HVL.out]; rfl) hL, hph⟩
      go_simp
    · skip
      have y2 : L 2 = true := up_at hu 2 (by kernel_rfl)
      have y7 : L 7 = true := up_at hu 7 (by kernel_rfl)
      have e185 : (many gg_ L (VL z))[185]?.getD undef = .bool true := many_eval3 hgN (HOK.out z) (by rw [HVL.out]; rfl) y7
      refine opIn_run (v := .bool true) (w' := w') rfl rfl (fun c h => by cases h) (fun _ => trivial) ?_ ⟨z, by exact many_put3 (HOK.out _) (by rw [HVL.out]; rfl) hL, hph⟩
      go_simp
    · skip
      have y8 : L 8 = true := up_at hu 8 (by kernel_rfl)
      have e19 : (many gg_ L (VL z))[19]?.getD undef = .slice (some ⟨g5, o5, none⟩) bl C5 := many_out3 hgN (HOK.out z) (by rw [HVL.out]; rfl) hF19
      have e186 : (many gg_ L (VL z))[186]?.getD undef = .bool true := many_eval3 hgN (HOK.out z) (by rw [HVL.out]; rfl) y8
      refine opIn_run_g (v := .slice (some ⟨g5, o5, none⟩) bl C5) (w' := w') (j := 8) (b := true) rfl rfl (by simp [yielded, many_some hgN (show 186 < 254 by decide) e186]) (fun c h => by cases h) (fun _ => trivial) ?_ ⟨z, by exact many_put3 (HOK.out _) (by rw [HVL.out]; rfl) hL, hph⟩
      go_simp
    · skip
      have y8 : L 8 = true := up_at hu 8 (by kernel_rfl)
      have e21 : (many gg_ L (VL z))[21]?.getD undef = .int .i64 (i : Int) := many_out3 hgN (HOK.out z) (by rw [HVL.out]; rfl) hF21
      have e186 : (many gg_ L (VL z))[186]?.getD undef = .bool true := many_eval3 hgN (HOK.out z) (by rw [HVL.out]; rfl) y8
      refine opIn_run_g (v := .int .i64 (i : Int)) (w' := w') (j := 8) (b := true) rfl rfl (by simp [yielded, many_some hgN (show 186 < 254 by decide) e186]) (fun c h => by cases h) (fun _ => trivial) ?_ ⟨z, by exact many_put3 (HOK.out _) (by rw [HVL.out]; rfl) hL, hph⟩
      go_simp
    · skip
      have y8 : L 8 = true := up_at hu 8 (by kernel_rfl)
      have y9 : L 9 = true := up_at hu 9 (by kernel_rfl)
      have y10 : L 10 = true := up_at hu 10 (by kernel_rfl)
      have e186 : (many gg_ L (VL z))[186]?.getD undef = .bool true := many_eval3 hgN (HOK.out z) (by rw [HVL.out]; rfl) y8
      have e187 : (many gg_ L (VL z))[187]?.getD undef = .slice (some ⟨g5, o5, none⟩) bl C5 := many_eval3 hgN (HOK.out z) (by rw [HVL.out]; rfl) y9
      have e188 : (many gg_ L (VL z))[188]?.getD undef = .int .i64 (i : Int) := many_eval3 hgN (HOK.out z) (by rw [HVL.out]; rfl) y10
      refine opIn_run_g (v := .pointer (some ⟨g5, o5 + i * 4, none⟩)) (w' := w') (j := 8) (b := true) rfl rfl (by simp [yielded, many_some hgN (show 186 < 254 by decide) e186]) (fun c h => by cases h) (fun _ => trivial) ?_ ⟨z, by exact many_put3 (HOK.out _) (by rw [HVL.out]; rfl) hL, hph⟩
      go_simp
    · skip
      have y8 : L 8 = true := up_at hu 8 (by kernel_rfl)
      have y11 : L 11 = true := up_at hu 11 (by kernel_rfl)
      have e186 : (many gg_ L (VL z))[186]?.getD undef = .bool true := many_eval3 hgN (HOK.out z) (by rw [HVL.out]; rfl) y8
      have e189 : (many gg_ L (VL z))[189]?.getD undef = .pointer (some ⟨g5, o5 + i * 4, none⟩) := many_eval3 hgN (HOK.out z) (by rw [HVL.out]; rfl) y11
      refine opIn_run_g (v := .pointer (some ⟨g5, o5 + i * 4, none⟩)) (w' := w') (j := 8) (b := true) rfl rfl (by simp [yielded, many_some hgN (show 186 < 254 by decide) e186]) (fun c h => by cases h) (fun _ => trivial) ?_ ⟨z, by exact many_put3 (HOK.out _) (by rw [HVL.out]; rfl) hL, hph⟩
      go_simp
    · skip
      have y8 : L 8 = true := up_at hu 8 (by kernel_rfl)
      have y12 : L 12 = true := up_at hu 12 (by kernel_rfl)
      have hcell : w'.cell? ⟨g5, o5 + i * 4, none⟩ = some (.int .i64 c0) := (hph.cell (p := ⟨g5, o5 + i * 4, none⟩) HW6.out).trans x0'
      have e186 : (many gg_ L (VL z))[186]?.getD undef = .bool true := many_eval3 hgN (HOK.out z) (by rw [HVL.out]; rfl) y8
      have e190 : (many gg_ L (VL z))[190]?.getD undef = .pointer (some ⟨g5, o5 + i * 4, none⟩) := many_eval3 hgN (HOK.out z) (by rw [HVL.out]; rfl) y12
      refine opIn_run_g (v := .int .i64 c0) (w' := w') (j := 8) (b := true) rfl rfl (by simp [yielded, many_some hgN (show 186 < 254 by decide) e186]) (fun c h => by cases h) (fun _ => trivial) ?_ ⟨z, by exact many_put3 (HOK.out _) (by rw [HVL.out]; rfl) hL, hph⟩
      go_simp
    · skip
      have y8 : L 8 = true := up_at hu 8 (by kernel_rfl)
      have e19 : (many gg_ L (VL z))[19]?.getD undef = .slice (some ⟨g5, o5, none⟩) bl C5 := many_out3 hgN (HOK.out z) (by rw [HVL.out]; rfl) hF19
      have e186 : (many gg_ L (VL z))[186]?.getD undef = .bool true := many_eval3 hgN (HOK.out z) (by rw [HVL.out]; rfl) y8
      refine opIn_run_g (v := .slice (some ⟨g5, o5, none⟩) bl C5) (w' := w') (j := 8) (b := true) rfl rfl (by simp [yielded, many_some hgN (show 186 < 254 by decide) e186]) (fun c h => by cases h) (fun _ => trivial) ?_ ⟨z, by exact many_put3 (HOK.out _) (by rw [HVL.out]; rfl) hL, hph⟩
      go_simp
    · skip
      have y8 : L 8 = true := up_at hu 8 (by kernel_rfl)
      have e21 : (many gg_ L (VL z))[21]?.getD undef = .int .i64 (i : Int) := many_out3 hgN (HOK.out z) (by rw [HVL.out]; rfl) hF21
      have e186 : (many gg_ L (VL z))[186]?.getD undef = .bool true := many_eval3 hgN (HOK.out z) (by rw [HVL.out]; rfl) y8
      refine opIn_run_g (v := .int .i64 (i : Int)) (w' := w') (j := 8) (b := true) rfl rfl (by simp [yielded, many_some hgN (show 186 < 254 by decide) e186]) (fun c h => by cases h) (fun _ => trivial) ?_ ⟨z, by exact many_put3 (HOK.out _) (by rw [HVL.out]; rfl) hL, hph⟩
      go_simp
    · skip
      have y8 : L 8 = true := up_at hu 8 (by kernel_rfl)
      have y15 : L 15 = true := up_at hu 15 (by kernel_rfl)
      have q := HWL.out
      have e186 : (many gg_ L (VL z))[186]?.getD undef = .bool true := many_eval3 hgN (HOK.out z) (by rw [HVL.out]; rfl) y8
      have e193 : (many gg_ L (VL z))[193]?.getD undef = .int .i64 (i : Int) := many_eval3 hgN (HOK.out z) (by rw [HVL.out]; rfl) y15
      refine opIn_run_g (v := .int .i64 (j1 : Int)) (w' := w') (j := 8) (b := true) rfl rfl (by simp [yielded, many_some hgN (show 186 < 254 by decide) e186]) (fun c h => by cases h) (fun _ => trivial) ?_ ⟨z, by exact many_put3 (HOK.out _) (by rw [HVL.out]; rfl) hL, hph⟩
      go_simp
    · skip
      have y8 : L 8 = true := up_at hu 8 (by kernel_rfl)
      have y14 : L 14 = true := up_at hu 14 (by kernel_rfl)
      have y16 : L 16 = true := up_at hu 16 (by kernel_rfl)
      have e186 : (many gg_ L (VL z))[186]?.getD undef = .bool true := many_eval3 hgN (HOK.out z) (by rw [HVL.out]; rfl) y8
      have e192 : (many gg_ L (VL z))[192]?.getD undef = .slice (some ⟨g5, o5, none⟩) bl C5 := many_eval3 hgN (HOK.out z) (by rw [HVL.out]; rfl) y14
      have e194 : (many gg_ L (VL z))[194]?.getD undef = .int .i64 (j1 : Int) := many_eval3 hgN (HOK.out z) (by rw [HVL.out]; rfl) y16
      refine opIn_run_g (v := .pointer (some ⟨g5, o5 + j1 * 4, none⟩)) (w' := w') (j := 8) (b := true) rfl rfl (by simp [yielded, many_some hgN (show 186 < 254 by decide) e186]) (fun c h => by cases h) (fun _ => trivial) ?_ ⟨z, by exact many_put3 (HOK.out _) (by rw [HVL.out]; rfl) hL, hph⟩
      go_simp
    · skip
      have y8 : L 8 = true := up_at hu 8 (by kernel_rfl)
      have y17 : L 17 = true := up_at hu 17 (by kernel_rfl)
      have e186 : (many gg_ L (VL z))[186]?.getD undef = .bool true := many_eval3 hgN (HOK.out z) (by rw [HVL.out]; rfl) y8
      have e195 : (many gg_ L (VL z))[195]?.getD undef = .pointer (some ⟨g5, o5 + j1 * 4, none⟩) := many_eval3 hgN (HOK.out z) (by rw [HVL.out]; rfl) y17
      refine opIn_run_g (v := .pointer (some ⟨g5, o5 + j1 * 4 + 2, none⟩)) (w' := w') (j := 8) (b := true) rfl rfl (by simp [yielded, many_some hgN (show 186 < 254 by decide) e186]) (fun c h => by cases h) (fun _ => trivial) ?_ ⟨z, by exact many_put3 (HOK.out _) (by rw [HVL.out]; rfl) hL, hph⟩
      go_simp
    · skip
      have y8 : L 8 = true := up_at hu 8 (by kernel_rfl)
      have y18 : L 18 = true := up_at hu 18 (by kernel_rfl)
      have hcell : w'.cell? ⟨g5, o5 + j1 * 4 + 2, none⟩ = some (.int .i64 c0) := (hph.cell (p := ⟨g5, o5 + j1 * 4 + 2, none⟩) HW6.out).trans q2
      have e186 : (many gg_ L (VL z))[186]?.getD undef = .bool true := many_eval3 hgN (HOK.out z) (by rw [HVL.out]; rfl) y8
      have e196 : (many gg_ L (VL z))[196]?.getD undef = .pointer (some ⟨g5, o5 + j1 * 4 + 2, none⟩) := many_eval3 hgN (HOK.out z) (by rw [HVL.out]; rfl) y18
      refine opIn_run_g (v := .int .i64 c0) (w' := w') (j := 8) (b := true) rfl rfl (by simp [yielded, many_some hgN (show 186 < 254 by decide) e186]) (fun c h => by cases h) (fun _ => trivial) ?_ ⟨z, by exact many_put3 (HOK.out _) (by rw [HVL.out]; rfl) hL, hph⟩
      go_simp
    · skip
      have y8 : L 8 = true := up_at hu 8 (by kernel_rfl)
      have y13 : L 13 = true := up_at hu 13 (by kernel_rfl)
      have y19 : L 19 = true := up_at hu 19 (by kernel_rfl)
      have e186 : (many gg_ L (VL z))[186]?.getD undef = .bool true := many_eval3 hgN (HOK.out z) (by rw [HVL.out]; rfl) y8
      have e191 : (many gg_ L (VL z))[191]?.getD undef = .int .i64 c0 := many_eval3 hgN (HOK.out z) (by rw [HVL.out]; rfl) y13
      have e197 : (many gg_ L (VL z))[197]?.getD undef = .int .i64 c0 := many_eval3 hgN (HOK.out z) (by rw [HVL.out]; rfl) y19
      refine opIn_run_g (v := .bool false) (w' := w') (j := 8) (b := true) rfl rfl (by simp [yielded, many_some hgN (show 186 < 254 by decide) e186]) (fun c h => by cases h) (fun _ => trivial) ?_ ⟨z, by exact many_put3 (HOK.out _) (by rw [HVL.out]; rfl) hL, hph⟩
      go_simp
    · skip
      have y8 : L 8 = true := up_at hu 8 (by kernel_rfl)
      have y20 : L 20 = true := up_at hu 20 (by kernel_rfl)
      have e186 : (many gg_ L (VL z))[186]?.getD undef = .bool true := many_eval3 hgN (HOK.out z) (by rw [HVL.out]; rfl) y8
      have e198 : (many gg_ L (VL z))[198]?.getD undef = .bool false := many_eval3 hgN (HOK.out z) (by rw [HVL.out]; rfl) y20
      refine opIn_run_g (v := .bool false) (w' := w') (j := 8) (b := true) rfl rfl (by simp [yielded, many_some hgN (show 186 < 254 by decide) e186]) (fun c h => by cases h) (fun _ => trivial) ?_ ⟨z, by exact many_put3 (HOK.out _) (by rw [HVL.out]; rfl) hL, hph⟩
      go_simp
    · skip
      have y21 : L 21 = true := up_at hu 21 (by kernel_rfl)
      have e19 : (many gg_ L (VL z))[19]?.getD undef = .slice (some ⟨g5, o5, none⟩) bl C5 := many_out3 hgN (HOK.out z) (by rw [HVL.out]; rfl) hF19
      have e199 : (many gg_ L (VL z))[199]?.getD undef = .bool false := many_eval3 hgN (HOK.out z) (by rw [HVL.out]; rfl) y21
      refine opIn_run_g (v := .slice (some ⟨g5, o5, none⟩) bl C5) (w' := w') (j := 21) (b := false) rfl rfl (by simp [yielded, many_some hgN (show 199 < 254 by decide) e199]) (fun c h => by cases h) (fun _ => trivial) ?_ ⟨z, by exact many_put3 (HOK.out _) (by rw [HVL.out]; rfl) hL, hph⟩
      go_simp
    · skip
      have y21 : L 21 = true := up_at hu 21 (by kernel_rfl)
      have e21 : (many gg_ L (VL z))[21]?.getD undef = .int .i64 (i : Int) := many_out3 hgN (HOK.out z) (by rw [HVL.out]; rfl) hF21
      have e199 : (many gg_ L (VL z))[199]?.getD undef = .bool false := many_eval3 hgN (HOK.out z) (by rw [HVL.out]; rfl) y21
      refine opIn_run_g (v := .int .i64 (i : Int)) (w' := w') (j := 21) (b := false) rfl rfl (by simp [yielded, many_some hgN (show 199 < 254 by decide) e199]) (fun c h => by cases h) (fun _ => trivial) ?_ ⟨z, by exact many_put3 (HOK.out _) (by rw [HVL.out]; rfl) hL, hph⟩
      go_simp
    · skip
      have y21 : L 21 = true := up_at hu 21 (by kernel_rfl)
      have y22 : L 22 = true := up_at hu 22 (by kernel_rfl)
      have y23 : L 23 = true := up_at hu 23 (by kernel_rfl)
      have e199 : (many gg_ L (VL z))[199]?.getD undef = .bool false := many_eval3 hgN (HOK.out z) (by rw [HVL.out]; rfl) y21
      have e200 : (many gg_ L (VL z))[200]?.getD undef = .slice (some ⟨g5, o5, none⟩) bl C5 := many_eval3 hgN (HOK.out z) (by rw [HVL.out]; rfl) y22
      have e201 : (many gg_ L (VL z))[201]?.getD undef = .int .i64 (i : Int) := many_eval3 hgN (HOK.out z) (by rw [HVL.out]; rfl) y23
      refine opIn_run_g (v := .pointer (some ⟨g5, o5 + i * 4, none⟩)) (w' := w') (j := 21) (b := false) rfl rfl (by simp [yielded, many_some hgN (show 199 < 254 by decide) e199]) (fun c h => by cases h) (fun _ => trivial) ?_ ⟨z, by exact many_put3 (HOK.out _) (by rw [HVL.out]; rfl) hL, hph⟩
      go_simp
    · skip
      have y21 : L 21 = true := up_at hu 21 (by kernel_rfl)
      have y24 : L 24 = true := up_at hu 24 (by kernel_rfl)
      have e199 : (many gg_ L (VL z))[199]?.getD undef = .bool false := many_eval3 hgN (HOK.out z) (by rw [HVL.out]; rfl) y21
      have e202 : (many gg_ L (VL z))[202]?.getD undef = .pointer (some ⟨g5, o5 + i * 4, none⟩) := many_eval3 hgN (HOK.out z) (by rw [HVL.out]; rfl) y24
      refine opIn_run_g (v := .pointer (some ⟨g5, o5 + i * 4 + 1, none⟩)) (w' := w') (j := 21) (b := false) rfl rfl (by simp [yielded, many_some hgN (show 199 < 254 by decide) e199]) (fun c h => by cases h) (fun _ => trivial) ?_ ⟨z, by exact many_put3 (HOK.out _) (by rw [HVL.out]; rfl) hL, hph⟩
      go_simp
    · skip
      have y21 : L 21 = true := up_at hu 21 (by kernel_rfl)
      have y25 : L 25 = true := up_at hu 25 (by kernel_rfl)
      have hcell : w'.cell? ⟨g5, o5 + i * 4 + 1, none⟩ = some (.int .i64 c1) := (hph.cell (p := ⟨g5, o5 + i * 4 + 1, none⟩) HW6.out).trans x1'
      have e199 : (many gg_ L (VL z))[199]?.getD undef = .bool false := many_eval3 hgN (HOK.out z) (by rw [HVL.out]; rfl) y21
      have e203 : (many gg_ L (VL z))[203]?.getD undef = .pointer (some ⟨g5, o5 + i * 4 + 1, none⟩) := many_eval3 hgN (HOK.out z) (by rw [HVL.out]; rfl) y25
      refine opIn_run_g (v := .int .i64 c1) (w' := w') (j := 21) (b := false) rfl rfl (by simp [yielded, many_some hgN (show 199 < 254 by decide) e199]) (fun c h => by cases h) (fun _ => trivial) ?_ ⟨z, by exact many_put3 (HOK.out _) (by rw [HVL.out]; rfl) hL, hph⟩
      go_simp
    · skip
      have y21 : L 21 = true := up_at hu 21 (by kernel_rfl)
      have e19 : (many gg_ L (VL z))[19]?.getD undef = .slice (some ⟨g5, o5, none⟩) bl C5 := many_out3 hgN (HOK.out z) (by rw [HVL.out]; rfl) hF19
      have e199 : (many gg_ L (VL z))[199]?.getD undef = .bool false := many_eval3 hgN (HOK.out z) (by rw [HVL.out]; rfl) y21
      refine opIn_run_g (v := .slice (some ⟨g5, o5, none⟩) bl C5) (w' := w') (j := 21) (b := false) rfl rfl (by simp [yielded, many_some hgN (show 199 < 254 by decide) e199]) (fun c h => by cases h) (fun _ => trivial) ?_ ⟨z, by exact many_put3 (HOK.out _) (by rw [HVL.out]; rfl) hL, hph⟩
      go_simp
    · skip
      have y21 : L 21 = true := up_at hu 21 (by kernel_rfl)
      have e21 : (many gg_ L (VL z))[21]?.getD undef = .int .i64 (i : Int) := many_out3 hgN (HOK.out z) (by rw [HVL.out]; rfl) hF21
      have e199 : (many gg_ L (VL z))[199]?.getD undef = .bool false := many_eval3 hgN (HOK.out z) (by rw [HVL.out]; rfl) y21
      refine opIn_run_g (v := .int .i64 (i : Int)) (w' := w') (j := 21) (b := false) rfl rfl (by simp [yielded, many_some hgN (show 199 < 254 by decide) e199]) (fun c h => by cases h) (fun _ => trivial) ?_ ⟨z, by exact many_put3 (HOK.out _) (by rw [HVL.out]; rfl) hL, hph⟩
      go_simp
    · skip
      have y21 : L 21 = true := up_at hu 21 (by kernel_rfl)
      have y28 : L 28 = true := up_at hu 28 (by kernel_rfl)
      have q := HWL.out
      have e199 : (many gg_ L (VL z))[199]?.getD undef = .bool false := many_eval3 hgN (HOK.out z) (by rw [HVL.out]; rfl) y21
      have e206 : (many gg_ L (VL z))[206]?.getD undef = .int .i64 (i : Int) := many_eval3 hgN (HOK.out z) (by rw [HVL.out]; rfl) y28
      refine opIn_run_g (v := .int .i64 (j1 : Int)) (w' := w') (j := 21) (b := false) rfl rfl (by simp [yielded, many_some hgN (show 199 < 254 by decide) e199]) (fun c h => by cases h) (fun _ => trivial) ?_ ⟨z, by exact many_put3 (HOK.out _) (by rw [HVL.out]; rfl) hL, hph⟩
      go_simp
    · skip
      have y21 : L 21 = true := up_at hu 21 (by kernel_rfl)
      have y27 : L 27 = true := up_at hu 27 (by kernel_rfl)
      have y29 : L 29 = true := up_at hu 29 (by kernel_rfl)
      have e199 : (many gg_ L (VL z))[199]?.getD undef = .bool false := many_eval3 hgN (HOK.out z) (by rw [HVL.out]; rfl) y21
      have e205 : (many gg_ L (VL z))[205]?.getD undef = .slice (some ⟨g5, o5, none⟩) bl C5 := many_eval3 hgN (HOK.out z) (by rw [HVL.out]; rfl) y27
      have e207 : (many gg_ L (VL z))[207]?.getD undef = .int .i64 (j1 : Int) := many_eval3 hgN (HOK.out z) (by rw [HVL.out]; rfl) y29
      refine opIn_run_g (v := .pointer (some ⟨g5, o5 + j1 * 4, none⟩)) (w' := w') (j := 21) (b := false) rfl rfl (by simp [yielded, many_some hgN (show 199 < 254 by decide) e199]) (fun c h => by cases h) (fun _ => trivial) ?_ ⟨z, by exact many_put3 (HOK.out _) (by rw [HVL.out]; rfl) hL, hph⟩
      go_simp
    · skip
      have y21 : L 21 = true := up_at hu 21 (by kernel_rfl)
      have y30 : L 30 = true := up_at hu 30 (by kernel_rfl)
      have e199 : (many gg_ L (VL z))[199]?.getD undef = .bool false := many_eval3 hgN (HOK.out z) (by rw [HVL.out]; rfl) y21
      have e208 : (many gg_ L (VL z))[208]?.getD undef = .pointer (some ⟨g5, o5 + j1 * 4, none⟩) := many_eval3 hgN (HOK.out z) (by rw [HVL.out]; rfl) y30
      refine opIn_run_g (v := .pointer (some ⟨g5, o5 + j1 * 4 + 1, none⟩)) (w' := w') (j := 21) (b := false) rfl rfl (by simp [yielded, many_some hgN (show 199 < 254 by decide) e199]) (fun c h => by cases h) (fun _ => trivial) ?_ ⟨z, by exact many_put3 (HOK.out _) (by rw [HVL.out]; rfl) hL, hph⟩
      go_simp
    · skip
      have y21 : L 21 = true := up_at hu 21 (by kernel_rfl)
      have y31 : L 31 = true := up_at hu 31 (by kernel_rfl)
      have hcell : w'.cell? ⟨g5, o5 + j1 * 4 + 1, none⟩ = some (.int .i64 c1) := (hph.cell (p := ⟨g5, o5 + j1 * 4 + 1, none⟩) HW6.out).trans q1
      have e199 : (many gg_ L (VL z))[199]?.getD undef = .bool false := many_eval3 hgN (HOK.out z) (by rw [HVL.out]; rfl) y21
      have e209 : (many gg_ L (VL z))[209]?.getD undef = .pointer (some ⟨g5, o5 + j1 * 4 + 1, none⟩) := many_eval3 hgN (HOK.out z) (by rw [HVL.out]; rfl) y31
      refine opIn_run_g (v := .int .i64 c1) (w' := w') (j := 21) (b := false) rfl rfl (by simp [yielded, many_some hgN (show 199 < 254 by decide) e199]) (fun c h => by cases h) (fun _ => trivial) ?_ ⟨z, by exact many_put3 (HOK.out _) (by rw [HVL.out]; rfl) hL, hph⟩
      go_simp
    · skip
      have y21 : L 21 = true := up_at hu 21 (by kernel_rfl)
      have y26 : L 26 = true := up_at hu 26 (by kernel_rfl)
      have y32 : L 32 = true := up_at hu 32 (by kernel_rfl)
      have e199 : (many gg_ L (VL z))[199]?.getD undef = .bool false := many_eval3 hgN (HOK.out z) (by rw [HVL.out]; rfl) y21
      have e204 : (many gg_ L (VL z))[204]?.getD undef = .int .i64 c1 := many_eval3 hgN (HOK.out z) (by rw [HVL.out]; rfl) y26
      have e210 : (many gg_ L (VL z))[210]?.getD undef = .int .i64 c1 := many_eval3 hgN (HOK.out z) (by rw [HVL.out]; rfl) y32
      refine opIn_run_g (v := .bool false) (w' := w') (j := 21) (b := false) rfl rfl (by simp [yielded, many_some hgN (show 199 < 254 by decide) e199]) (fun c h => by cases h) (fun _ => trivial) ?_ ⟨z, by exact many_put3 (HOK.out _) (by rw [HVL.out]; rfl) hL, hph⟩
      go_simp
    · skip
      have y8 : L 8 = true := up_at hu 8 (by kernel_rfl)
      have y21 : L 21 = true := up_at hu 21 (by kernel_rfl)
      have y33 : L 33 = true := up_at hu 33 (by kernel_rfl)
      have e186 : (many gg_ L (VL z))[186]?.getD undef = .bool true := many_eval3 hgN (HOK.out z) (by rw [HVL.out]; rfl) y8
      have e199 : (many gg_ L (VL z))[199]?.getD undef = .bool false := many_eval3 hgN (HOK.out z) (by rw [HVL.out]; rfl) y21
      have e211 : (many gg_ L (VL z))[211]?.getD undef = .bool false := many_eval3 hgN (HOK.out z) (by rw [HVL.out]; rfl) y33
      refine opIn_run_g (v := .bool false) (w' := w') (j := 8) (b := true) rfl rfl (by simp [yielded, many_some hgN (show 186 < 254 by decide) e186]) (fun c h => by cases h) (fun _ => trivial) ?_ ⟨z, by exact many_put3 (HOK.out _) (by rw [HVL.out]; rfl) hL, hph⟩
      go_simp
    · skip
      have y8 : L 8 = true := up_at hu 8 (by kernel_rfl)
      have y34 : L 34 = true := up_at hu 34 (by kernel_rfl)
      have e186 : (many gg_ L (VL z))[186]?.getD undef = .bool true := many_eval3 hgN (HOK.out z) (by rw [HVL.out]; rfl) y8
      have e212 : (many gg_ L (VL z))[212]?.getD undef = .bool false := many_eval3 hgN (HOK.out z) (by rw [HVL.out]; rfl) y34
      refine opIn_run (v := .bool false) (w' := w') rfl rfl (fun c h => by cases h) (fun _ => trivial) ?_ ⟨z, by exact many_put3 (HOK.out _) (by rw [HVL.out]; rfl) hL, hph⟩
      go_simp
    · skip
      have y21 : L 21 = true := up_at hu 21 (by kernel_rfl)
      have y35 : L 35 = true := up_at hu 35 (by kernel_rfl)
      have e213 : (many gg_ L (VL z))[213]?.getD undef = .bool false := many_eval3 hgN (HOK.out z) (by rw [HVL.out]; rfl) y35
      refine opIn_run (v := .bool false) (w' := w') rfl rfl (fun c h => by cases h) (fun _ => trivial) ?_ ⟨z, by exact many_put3 (HOK.out _) (by rw [HVL.out]; rfl) hL, hph⟩
      go_simp
    · skip
      have y36 : L 36 = true := up_at hu 36 (by kernel_rfl)
      have e21 : (many gg_ L (VL z))[21]?.getD undef = .int .i64 (i : Int) := many_out3 hgN (HOK.out z) (by rw [HVL.out]; rfl) hF21
      have e214 : (many gg_ L (VL z))[214]?.getD undef = .bool false := many_eval3 hgN (HOK.out z) (by rw [HVL.out]; rfl) y36
      refine opIn_run_g (v := .int .i64 (i : Int)) (w' := w') (j := 36) (b := false) rfl rfl (by simp [yielded, many_some hgN (show 214 < 254 by decide) e214]) (fun c h => by cases h) (fun _ => trivial) ?_ ⟨z, by exact many_put3 (HOK.out _) (by rw [HVL.out]; rfl) hL, hph⟩
      go_simp
    · skip
      have y36 : L 36 = true := up_at hu 36 (by kernel_rfl)
      have e20 : (many gg_ L (VL z))[20]?.getD undef = .int .i64 bwd := many_out3 hgN (HOK.out z) (by rw [HVL.out]; rfl) hF20
      have e214 : (many gg_ L (VL z))[214]?.getD undef = .bool false := many_eval3 hgN (HOK.out z) (by rw [HVL.out]; rfl) y36
      refine opIn_run_g (v := .int .i64 bwd) (w' := w') (j := 36) (b := false) rfl rfl (by simp [yielded, many_some hgN (show 214 < 254 by decide) e214]) (fun c h => by cases h) (fun _ => trivial) ?_ ⟨z, by exact many_put3 (HOK.out _) (by rw [HVL.out]; rfl) hL, hph⟩
      go_simp
    · skip
      have y36 : L 36 = true := up_at hu 36 (by kernel_rfl)
      have y37 : L 37 = true := up_at hu 37 (by kernel_rfl)
      have y38 : L 38 = true := up_at hu 38 (by kernel_rfl)
      have e214 : (many gg_ L (VL z))[214]?.getD undef = .bool false := many_eval3 hgN (HOK.out z) (by rw [HVL.out]; rfl) y36
      have e215 : (many gg_ L (VL z))[215]?.getD undef = .int .i64 (i : Int) := many_eval3 hgN (HOK.out z) (by rw [HVL.out]; rfl) y37
      have e216 : (many gg_ L (VL z))[216]?.getD undef = .int .i64 bwd := many_eval3 hgN (HOK.out z) (by rw [HVL.out]; rfl) y38
      refine opIn_run_g (v := .bool true) (w' := w') (j := 36) (b := false) rfl rfl (by simp [yielded, many_some hgN (show 214 < 254 by decide) e214]) (fun c h => by cases h) (fun _ => trivial) ?_ ⟨z, by exact many_put3 (HOK.out _) (by rw [HVL.out]; rfl) hL, hph⟩
      go_simp
    · skip
      have y36 : L 36 = true := up_at hu 36 (by kernel_rfl)
      have y39 : L 39 = true := up_at hu 39 (by kernel_rfl)
      have e214 : (many gg_ L (VL z))[214]?.getD undef = .bool false := many_eval3 hgN (HOK.out z) (by rw [HVL.out]; rfl) y36
      have e217 : (many gg_ L (VL z))[217]?.getD undef = .bool true := many_eval3 hgN (HOK.out z) (by rw [HVL.out]; rfl) y39
      refine opIn_run_g (v := .bool true) (w' := w') (j := 36) (b := false) rfl rfl (by simp [yielded, many_some hgN (show 214 < 254 by decide) e214]) (fun c h => by cases h) (fun _ => trivial) ?_ ⟨z, by exact many_put3 (HOK.out _) (by rw [HVL.out]; rfl) hL, hph⟩
      go_simp
    · skip
      have y40 : L 40 = true := up_at hu 40 (by kernel_rfl)
      have e19 : (many gg_ L (VL z))[19]?.getD undef = .slice (some ⟨g5, o5, none⟩) bl C5 := many_out3 hgN (HOK.out z) (by rw [HVL.out]; rfl) hF19
      have e218 : (many gg_ L (VL z))[218]?.getD undef = .bool true := many_eval3 hgN (HOK.out z) (by rw [HVL.out]; rfl) y40
      refine opIn_run_g (v := .slice (some ⟨g5, o5, none⟩) bl C5) (w' := w') (j := 40) (b := true) rfl rfl (by simp [yielded, many_some hgN (show 218 < 254 by decide) e218]) (fun c h => by cases h) (fun _ => trivial) ?_ ⟨z, by exact many_put3 (HOK.out _) (by rw [HVL.out]; rfl) hL, hph⟩
      go_simp
    · skip
      have y40 : L 40 = true := up_at hu 40 (by kernel_rfl)
      have e21 : (many gg_ L (VL z))[21]?.getD undef = .int .i64 (i : Int) := many_out3 hgN (HOK.out z) (by rw [HVL.out]; rfl) hF21
      have e218 : (many gg_ L (VL z))[218]?.getD undef = .bool true := many_eval3 hgN (HOK.out z) (by rw [HVL.out]; rfl) y40
      refine opIn_run_g (v := .int .i64 (i : Int)) (w' := w') (j := 40) (b := true) rfl rfl (by simp [yielded, many_some hgN (show 218 < 254 by decide) e218]) (fun c h => by cases h) (fun _ => trivial) ?_ ⟨z, by exact many_put3 (HOK.out _) (by rw [HVL.out]; rfl) hL, hph⟩
      go_simp
    · skip
      have y40 : L 40 = true := up_at hu 40 (by kernel_rfl)
      have y41 : L 41 = true := up_at hu 41 (by kernel_rfl)
      have y42 : L 42 = true := up_at hu 42 (by kernel_rfl)
      have e218 : (many gg_ L (VL z))[218]?.getD undef = .bool true := many_eval3 hgN (HOK.out z) (by rw [HVL.out]; rfl) y40
      have e219 : (many gg_ L (VL z))[219]?.getD undef = .slice (some ⟨g5, o5, none⟩) bl C5 := many_eval3 hgN (HOK.out z) (by rw [HVL.out]; rfl) y41
      have e220 : (many gg_ L (VL z))[220]?.getD undef = .int .i64 (i : Int) := many_eval3 hgN (HOK.out z) (by rw [HVL.out]; rfl) y42
      refine opIn_run_g (v := .pointer (some ⟨g5, o5 + i * 4, none⟩)) (w' := w') (j := 40) (b := true) rfl rfl (by simp [yielded, many_some hgN (show 218 < 254 by decide) e218]) (fun c h => by cases h) (fun _ => trivial) ?_ ⟨z, by exact many_put3 (HOK.out _) (by rw [HVL.out]; rfl) hL, hph⟩
      go_simp
    · skip
      have y40 : L 40 = true := up_at hu 40 (by kernel_rfl)
      have y43 : L 43 = true := up_at hu 43 (by kernel_rfl)
      have e218 : (many gg_ L (VL z))[218]?.getD undef = .bool true := many_eval3 hgN (HOK.out z) (by rw [HVL.out]; rfl) y40
      have e221 : (many gg_ L (VL z))[221]?.getD undef = .pointer (some ⟨g5, o5 + i * 4, none⟩) := many_eval3 hgN (HOK.out z) (by rw [HVL.out]; rfl) y43
      refine opIn_run_g (v := .pointer (some ⟨g5, o5 + i * 4 + 1, none⟩)) (w' := w') (j := 40) (b := true) rfl rfl (by simp [yielded, many_some hgN (show 218 < 254 by decide) e218]) (fun c h => by cases h) (fun _ => trivial) ?_ ⟨z, by exact many_put3 (HOK.out _) (by rw [HVL.out]; rfl) hL, hph⟩
      go_simp
    · skip
      have y40 : L 40 = true := up_at hu 40 (by kernel_rfl)
      have y44 : L 44 = true := up_at hu 44 (by kernel_rfl)
      have hcell : w'.cell? ⟨g5, o5 + i * 4 + 1, none⟩ = some (.int .i64 c1) := (hph.cell (p := ⟨g5, o5 + i * 4 + 1, none⟩) HW6.out).trans x1'
      have e218 : (many gg_ L (VL z))[218]?.getD undef = .bool true := many_eval3 hgN (HOK.out z) (by rw [HVL.out]; rfl) y40
      have e222 : (many gg_ L (VL z))[222]?.getD undef = .pointer (some ⟨g5, o5 + i * 4 + 1, none⟩) := many_eval3 hgN (HOK.out z) (by rw [HVL.out]; rfl) y44
      refine opIn_run_g (v := .int .i64 c1) (w' := w') (j := 40) (b := true) rfl rfl (by simp [yielded, many_some hgN (show 218 < 254 by decide) e218]) (fun c h => by cases h) (fun _ => trivial) ?_ ⟨z, by exact many_put3 (HOK.out _) (by rw [HVL.out]; rfl) hL, hph⟩
      go_simp
    · skip
      have y40 : L 40 = true := up_at hu 40 (by kernel_rfl)
      have e19 : (many gg_ L (VL z))[19]?.getD undef = .slice (some ⟨g5, o5, none⟩) bl C5 := many_out3 hgN (HOK.out z) (by rw [HVL.out]; rfl) hF19
      have e218 : (many gg_ L (VL z))[218]?.getD undef = .bool true := many_eval3 hgN (HOK.out z) (by rw [HVL.out]; rfl) y40
      refine opIn_run_g (v := .slice (some ⟨g5, o5, none⟩) bl C5) (w' := w') (j := 40) (b := true) rfl rfl (by simp [yielded, many_some hgN (show 218 < 254 by decide) e218]) (fun c h => by cases h) (fun _ => trivial) ?_ ⟨z, by exact many_put3 (HOK.out _) (by rw [HVL.out]; rfl) hL, hph⟩
      go_simp
    · skip
      have y40 : L 40 = true := up_at hu 40 (by kernel_rfl)
      have e21 : (many gg_ L (VL z))[21]?.getD undef = .int .i64 (i : Int) := many_out3 hgN (HOK.out z) (by rw [HVL.out]; rfl) hF21
      have e218 : (many gg_ L (VL z))[218]?.getD undef = .bool true := many_eval3 hgN (HOK.out z) (by rw [HVL.out]; rfl) y40
      refine opIn_run_g (v := .int .i64 (i : Int)) (w' := w') (j := 40) (b := true) rfl rfl (by simp [yielded, many_some hgN (show 218 < 254 by decide) e218]) (fun c h => by cases h) (fun _ => trivial) ?_ ⟨z, by exact many_put3 (HOK.out _) (by rw [HVL.out]; rfl) hL, hph⟩
      go_simp
    · skip
      have y40 : L 40 = true := up_at hu 40 (by kernel_rfl)
      have e20 : (many gg_ L (VL z))[20]?.getD undef = .int .i64 bwd := many_out3 hgN (HOK.out z) (by rw [HVL.out]; rfl) hF20
      have e218 : (many gg_ L (VL z))[218]?.getD undef = .bool true := many_eval3 hgN (HOK.out z) (by rw [HVL.out]; rfl) y40
      refine opIn_run_g (v := .int .i64 bwd) (w' := w') (j := 40) (b := true) rfl rfl (by simp [yielded, many_some hgN (show 218 < 254 by decide) e218]) (fun c h => by cases h) (fun _ => trivial) ?_ ⟨z, by exact many_put3 (HOK.out _) (by rw [HVL.out]; rfl) hL, hph⟩
      go_simp
    · skip
      have y40 : L 40 = true := up_at hu 40 (by kernel_rfl)
      have y47 : L 47 = true := up_at hu 47 (by kernel_rfl)
      have y48 : L 48 = true := up_at hu 48 (by kernel_rfl)
      have q := HWU.out
      have e218 : (many gg_ L (VL z))[218]?.getD undef = .bool true := many_eval3 hgN (HOK.out z) (by rw [HVL.out]; rfl) y40
      have e225 : (many gg_ L (VL z))[225]?.getD undef = .int .i64 (i : Int) := many_eval3 hgN (HOK.out z) (by rw [HVL.out]; rfl) y47
      have e226 : (many gg_ L (VL z))[226]?.getD undef = .int .i64 bwd := many_eval3 hgN (HOK.out z) (by rw [HVL.out]; rfl) y48
      refine opIn_run_g (v := .int .i64 (j2 : Int)) (w' := w') (j := 40) (b := true) rfl rfl (by simp [yielded, many_some hgN (show 218 < 254 by decide) e218]) (fun c h => by cases h) (fun _ => trivial) ?_ ⟨z, by exact many_put3 (HOK.out _) (by rw [HVL.out]; rfl) hL, hph⟩
      go_simp
    · skip
      have y40 : L 40 = true := up_at hu 40 (by kernel_rfl)
      have y46 : L 46 = true := up_at hu 46 (by kernel_rfl)
      have y49 : L 49 = true := up_at hu 49 (by kernel_rfl)
      have e218 : (many gg_ L (VL z))[218]?.getD undef = .bool true := many_eval3 hgN (HOK.out z) (by rw [HVL.out]; rfl) y40
      have e224 : (many gg_ L (VL z))[224]?.getD undef = .slice (some ⟨g5, o5, none⟩) bl C5 := many_eval3 hgN (HOK.out z) (by rw [HVL.out]; rfl) y46
      have e227 : (many gg_ L (VL z))[227]?.getD undef = .int .i64 (j2 : Int) := many_eval3 hgN (HOK.out z) (by rw [HVL.out]; rfl) y49
      refine opIn_run_g (v := .pointer (some ⟨g5, o5 + j2 * 4, none⟩)) (w' := w') (j := 40) (b := true) rfl rfl (by simp [yielded, many_some hgN (show 218 < 254 by decide) e218]) (fun c h => by cases h) (fun _ => trivial) ?_ ⟨z, by exact many_put3 (HOK.out _) (by rw [HVL.out]; rfl) hL, hph⟩
      go_simp
    · skip
      have y40 : L 40 = true := up_at hu 40 (by kernel_rfl)
      have y50 : L 50 = true := up_at hu 50 (by kernel_rfl)
      have e218 : (many gg_ L (VL z))[218]?.getD undef = .bool true := many_eval3 hgN (HOK.out z) (by rw [HVL.out]; rfl) y40
      have e228 : (many gg_ L (VL z))[228]?.getD undef = .pointer (some ⟨g5, o5 + j2 * 4, none⟩) := many_eval3 hgN (HOK.out z) (by rw [HVL.out]; rfl) y50
      refine opIn_run_g (v := .pointer (some ⟨g5, o5 + j2 * 4 + 3, none⟩)) (w' := w') (j := 40) (b := true) rfl rfl (by simp [yielded, many_some hgN (show 218 < 254 by decide) e218]) (fun c h => by cases h) (fun _ => trivial) ?_ ⟨z, by exact many_put3 (HOK.out _) (by rw [HVL.out]; rfl) hL, hph⟩
      go_simp
    · skip
      have y40 : L 40 = true := up_at hu 40 (by kernel_rfl)
      have y51 : L 51 = true := up_at hu 51 (by kernel_rfl)
      have hcell : w'.cell? ⟨g5, o5 + j2 * 4 + 3, none⟩ = some (.int .i64 c1) := (hph.cell (p := ⟨g5, o5 + j2 * 4 + 3, none⟩) HW6.out).trans q3'
      have e218 : (many gg_ L (VL z))[218]?.getD undef = .bool true := many_eval3 hgN (HOK.out z) (by rw [HVL.out]; rfl) y40
      have e229 : (many gg_ L (VL z))[229]?.getD undef = .pointer (some ⟨g5, o5 + j2 * 4 + 3, none⟩) := many_eval3 hgN (HOK.out z) (by rw [HVL.out]; rfl) y51
      refine opIn_run_g (v := .int .i64 c1) (w' := w') (j := 40) (b := true) rfl rfl (by simp [yielded, many_some hgN (show 218 < 254 by decide) e218]) (fun c h => by cases h) (fun _ => trivial) ?_ ⟨z, by exact many_put3 (HOK.out _) (by rw [HVL.out]; rfl) hL, hph⟩
      go_simp
    · skip
      have y40 : L 40 = true := up_at hu 40 (by kernel_rfl)
      have y45 : L 45 = true := up_at hu 45 (by kernel_rfl)
      have y52 : L 52 = true := up_at hu 52 (by kernel_rfl)
      have e218 : (many gg_ L (VL z))[218]?.getD undef = .bool true := many_eval3 hgN (HOK.out z) (by rw [HVL.out]; rfl) y40
      have e223 : (many gg_ L (VL z))[223]?.getD undef = .int .i64 c1 := many_eval3 hgN (HOK.out z) (by rw [HVL.out]; rfl) y45
      have e230 : (many gg_ L (VL z))[230]?.getD undef = .int .i64 c1 := many_eval3 hgN (HOK.out z) (by rw [HVL.out]; rfl) y52
      refine opIn_run_g (v := .bool false) (w' := w') (j := 40) (b := true) rfl rfl (by simp [yielded, many_some hgN (show 218 < 254 by decide) e218]) (fun c h => by cases h) (fun _ => trivial) ?_ ⟨z, by exact many_put3 (HOK.out _) (by rw [HVL.out]; rfl) hL, hph⟩
      go_simp
    · skip
      have y36 : L 36 = true := up_at hu 36 (by kernel_rfl)
      have y40 : L 40 = true := up_at hu 40 (by kernel_rfl)
      have y53 : L 53 = true := up_at hu 53 (by kernel_rfl)
      have e214 : (many gg_ L (VL z))[214]?.getD undef = .bool false := many_eval3 hgN (HOK.out z) (by rw [HVL.out]; rfl) y36
      have e218 : (many gg_ L (VL z))[218]?.getD undef = .bool true := many_eval3 hgN (HOK.out z) (by rw [HVL.out]; rfl) y40
      have e231 : (many gg_ L (VL z))[231]?.getD undef = .bool false := many_eval3 hgN (HOK.out z) (by rw [HVL.out]; rfl) y53
      refine opIn_run_g (v := .bool false) (w' := w') (j := 36) (b := false) rfl rfl (by simp [yielded, many_some hgN (show 214 < 254 by decide) e214]) (fun c h => by cases h) (fun _ => trivial) ?_ ⟨z, by exact many_put3 (HOK.out _) (by rw [HVL.out]; rfl) hL, hph⟩
      go_simp
    · skip
      have y36 : L 36 = true := up_at hu 36 (by kernel_rfl)
      have y54 : L 54 = true := up_at hu 54 (by kernel_rfl)
      have e214 : (many gg_ L (VL z))[214]?.getD undef = .bool false := many_eval3 hgN (HOK.out z) (by rw [HVL.out]; rfl) y36
      have e232 : (many gg_ L (VL z))[232]?.getD undef = .bool false := many_eval3 hgN (HOK.out z) (by rw [HVL.out]; rfl) y54
      refine opIn_run (v := .bool false) (w' := w') rfl rfl (fun c h => by cases h) (fun _ => trivial) ?_ ⟨z, by exact many_put3 (HOK.out _) (by rw [HVL.out]; rfl) hL, hph⟩
      go_simp
  case fin =>
    intro L z w' hall hph
    rw [HVL.out]
    exact hQ _ hph
end Go.Proofs.Ythcpmonahmogaaa
