/- canvas: canvasPart of the law: how many samples a component has. -/
import Derived.Test.YthcpmonahmogaaaCvM0
set_option linter.unusedVariables false
set_option linter.unusedSimpArgs false
namespace Go.Proofs.Ythcpmonahmogaaa
open Go.RowKit
set_option maxRecDepth 100000
set_option maxHeartbeats 4000000 in
set_option pp.deepTerms true in
set_option pp.maxSteps 10000000 in
theorem cpart_any (x y ox oy d dx dy : Int) (sg : Bool) (AC AD : Option Addr) (n cC nD cD : Nat) (w : World) (hx : 0 ≤ ox ∧ ox ≤ x ∧ x ≤ 1000) (hy : 0 ≤ oy ∧ oy ≤ y ∧ y ≤ 1000) (hdx : 1 ≤ dx ∧ dx ≤ 1000) (hdy : 1 ≤ dy ∧ dy ≤ 1000) :
    Calls Try.prog 44 #[.agg #[.int .i64 x, .int .i64 y, .int .i64 ox, .int .i64 oy, .slice AC n cC], .agg #[.int .i64 d, .bool sg, .int .i64 dx, .int .i64 dy, .slice AD nD cD]] w fun e w' =>
      e = .returned (.int .i64 ((ceilF x dx - ceilF ox dx) * (ceilF y dy - ceilF oy dy))) ∧ Below w.heap.size w w' := by
  go_enter Try.func44, Try.ntmps44
  go_upto_region 1 with fail
  obtain ⟨W1, hW1⟩ : ∃ W1, (w.alloc (Obj.cells #[.int .i64 x, .int .i64 y, .int .i64 ox, .int .i64 oy, .slice AC n cC] 24)).alloc (Obj.cells #[.int .i64 d, .bool sg, .int .i64 dx, .int .i64 dy, .slice AD nD cD] 39) = W1 := ⟨_, rfl⟩
  have hB1 : Below w.heap.size w W1 := by rw [← hW1]; exact ((Below.refl _ w).alloc (Nat.le_refl _) _).alloc (by simp) _
  obtain ⟨B, hBe⟩ : ∃ B, w.heap.size = B := ⟨_, rfl⟩
  have b0 : W1.heap[B]? = some (.cells #[.int .i64 x, .int .i64 y, .int .i64 ox, .int .i64 oy, .slice AC n cC] 24 (0, 0)) := by
    rw [← hW1, Below.heap_alloc _ _ _ (by simp; omega), ← hBe]; exact World.alloc_heap_new w _
  have b1 : W1.heap[B + 1]? = some (.cells #[.int .i64 d, .bool sg, .int .i64 dx, .int .i64 dy, .slice AD nD cD] 39 (0, 0)) := by
    rw [← hW1, show B + 1 = (w.alloc (Obj.cells #[.int .i64 x, .int .i64 y, .int .i64 ox, .int .i64 oy, .slice AC n cC] 24)).heap.size by simp; omega]; exact World.alloc_heap_new _ _
  rw [hW1]
  rw [hBe]
  have HB := Lib.hid hB1
  have HF : Hid (W1.cell? ⟨B, 0, none⟩ = some (.int .i64 x) ∧ W1.cell? ⟨B, 1, none⟩ = some (.int .i64 y) ∧ W1.cell? ⟨B, 2, none⟩ = some (.int .i64 ox) ∧ W1.cell? ⟨B, 3, none⟩ = some (.int .i64 oy) ∧ W1.cell? ⟨B, 4, none⟩ = some (.slice AC n cC) ∧ W1.cell? ⟨B + 1, 2, none⟩ = some (.int .i64 dx) ∧ W1.cell? ⟨B + 1, 3, none⟩ = some (.int .i64 dy)) := Lib.hid (by simp [World.cell?, b0, b1])
  have HZ : Hid (B < W1.heap.size ∧ B + 1 < W1.heap.size) := Lib.hid ⟨(Array.getElem?_eq_some_iff.1 b0).1, (Array.getElem?_eq_some_iff.1 b1).1⟩
  obtain ⟨cx0, h0⟩ : ∃ c, ceilF ox dx = c := ⟨_, rfl⟩
  obtain ⟨cx1, h1⟩ : ∃ c, ceilF x dx = c := ⟨_, rfl⟩
  obtain ⟨cy0, h2⟩ : ∃ c, ceilF oy dy = c := ⟨_, rfl⟩
  obtain ⟨cy1, h3⟩ : ∃ c, ceilF y dy = c := ⟨_, rfl⟩
  have HCE : Hid (ceilF x dx = cx1 ∧ ceilF ox dx = cx0 ∧ ceilF y dy = cy1 ∧ ceilF oy dy = cy0) := Lib.hid ⟨h1, h0, h3, h2⟩
  have CP : Hid (∀ u, Calls Try.prog 22 #[.agg #[.int .i64 ox, .int .i64 oy, .int .i64 x, .int .i64 y], .int .i64 dx, .int .i64 dy] u fun e w' => e = .returned (.agg #[.int .i64 cx0, .int .i64 cy0, .int .i64 cx1, .int .i64 cy1]) ∧ Below u.heap.size u w') := Lib.hid fun u => by
    rw [← h0, ← h1, ← h2, ← h3]
    exact rpart_any ox oy x y dx dy u (by omega) (by omega) (by omega) (by omega) (by omega) (by omega)
  have CA : Hid (∀ u, Calls Try.prog 32 #[.agg #[.int .i64 cx0, .int .i64 cy0, .int .i64 cx1, .int .i64 cy1]] u fun e w' => e = .returned (.int .i64 ((cx1 - cx0) * (cy1 - cy0))) ∧ Below u.heap.size u w') := Lib.hid fun u => by
    have m0 := ceil_mono (show ox ≤ x from hx.2.1) hdx.1
    have m1 := ceil_mono (show oy ≤ y from hy.2.1) hdy.1
    have m2 := ceil_bd x dx (by omega) hdx.1
    have m3 := ceil_bd y dy (by omega) hdy.1
    have m4 := ceil_bd ox dx (by omega) hdx.1
    have m5 := ceil_bd oy dy (by omega) hdy.1
    rw [← h0, ← h1, ← h2, ← h3]
    exact rarea_any _ _ _ _ u (by omega) (by omega)
  clear hW1 hB1 b0 b1 h0 h1 h2 h3
  refine (wpIn_wide (n := 9)).1 (regionIn_inv (w := W1) (Inv := fun L a' w' => a' = { tmps := #[.agg #[.int .i64 x, .int .i64 y, .int .i64 ox, .int .i64 oy, .slice AC n cC], .agg #[.int .i64 d, .bool sg, .int .i64 dx, .int .i64 dy, .slice AD nD cD], .pointer (some ⟨B, 0, none⟩), .pointer (some ⟨B + 1, 0, none⟩), bif L 8 then .int .i64 ((cx1 - cx0) * (cy1 - cy0)) else .int .i64 0, bif L 0 then .agg #[.int .i64 x, .int .i64 y, .int .i64 ox, .int .i64 oy, .slice AC n cC] else undef, bif L 1 then .agg #[.int .i64 ox, .int .i64 oy, .int .i64 x, .int .i64 y] else undef, bif L 2 then .pointer (some ⟨B + 1, 2, none⟩) else undef, bif L 3 then .int .i64 dx else undef, bif L 4 then .pointer (some ⟨B + 1, 3, none⟩) else undef, bif L 5 then .int .i64 dy else undef, bif L 6 then .agg #[.int .i64 cx0, .int .i64 cy0, .int .i64 cx1, .int .i64 cy1] else undef, bif L 7 then .int .i64 ((cx1 - cx0) * (cy1 - cy0)) else undef], defers := [] } ∧ (Below W1.heap.size W1 w') ∧ True) (by kernel_rfl) (by kernel_rfl) ?start ?step ?fin)
  case start => exact ⟨rfl, below_drewN (Below.refl _ W1) 1, trivial⟩
  case step =>
    intro i hi L a' w' hI hs hu
    obtain ⟨rfl, hcm, hph⟩ := hI
    have hL := hu.1
    have hi : i < 9 := hi
    obtain rfl | rfl | rfl | rfl | rfl | rfl | rfl | rfl | rfl := (by omega : i = 0 ∨ i = 1 ∨ i = 2 ∨ i = 3 ∨ i = 4 ∨ i = 5 ∨ i = 6 ∨ i = 7 ∨ i = 8)
    · skip
      try simp only [hL, cond_true, cond_false] at hph
      have g0 := (hcm.cell (p := ⟨B, 0, none⟩) HZ.out.1).trans HF.out.1
      have g1 := (hcm.cell (p := ⟨B, 1, none⟩) HZ.out.1).trans HF.out.2.1
      have g2 := (hcm.cell (p := ⟨B, 2, none⟩) HZ.out.1).trans HF.out.2.2.1
      have g3 := (hcm.cell (p := ⟨B, 3, none⟩) HZ.out.1).trans HF.out.2.2.2.1
      have g4 := (hcm.cell (p := ⟨B, 4, none⟩) HZ.out.1).trans HF.out.2.2.2.2.1
      refine opIn_run (v := .agg #[.int .i64 x, .int .i64 y, .int .i64 ox, .int .i64 oy, .slice AC n cC]) (w' := w') rfl rfl (fun c h => by cases h) (fun _ => trivial) ?_ ⟨by simp [Act.put, upd, hL], hcm, hph⟩
      simp only [hL, cond_true, cond_false]
      go_simp
    · skip
      have y0 : L 0 = true := up_at hu 0 (by kernel_rfl)
      try simp only [y0, hL, cond_true, cond_false] at hph
      refine opIn_call (f := 35) (args := #[.agg #[.int .i64 x, .int .i64 y, .int .i64 ox, .int .i64 oy, .slice AC n cC]]) (w' := w') rfl rfl (fun c h => by cases h) (fun _ => trivial) rfl ?_ ((callsIn_wide.2 (rwhole_any x y ox oy AC n cC w')).mono ?_)
      · simp only [y0, hL, cond_true, cond_false]
        go_simp
      · rintro e w2 ⟨rfl, hb⟩
        exact ⟨_, rfl, by simp [Act.put, upd, y0, hL], hcm.trans (hb.mono hcm.size), trivial⟩
    · skip
      refine opIn_run (v := .pointer (some ⟨B + 1, 2, none⟩)) (w' := w') rfl rfl (fun c h => by cases h) (fun _ => trivial) ?_ ⟨by simp [Act.put, upd, hL], hcm, trivial⟩
      simp only [hL, cond_true, cond_false]
      go_simp
    · skip
      have y2 : L 2 = true := up_at hu 2 (by kernel_rfl)
      try simp only [y2, hL, cond_true, cond_false] at hph
      have g0 := (hcm.cell (p := ⟨B + 1, 2, none⟩) HZ.out.2).trans HF.out.2.2.2.2.2.1
      refine opIn_run (v := .int .i64 dx) (w' := w') rfl rfl (fun c h => by cases h) (fun _ => trivial) ?_ ⟨by simp [Act.put, upd, y2, hL], hcm, hph⟩
      simp only [y2, hL, cond_true, cond_false]
      go_simp
    · skip
      refine opIn_run (v := .pointer (some ⟨B + 1, 3, none⟩)) (w' := w') rfl rfl (fun c h => by cases h) (fun _ => trivial) ?_ ⟨by simp [Act.put, upd, hL], hcm, trivial⟩
      simp only [hL, cond_true, cond_false]
      go_simp
    · skip
      have y4 : L 4 = true := up_at hu 4 (by kernel_rfl)
      try simp only [y4, hL, cond_true, cond_false] at hph
      have g0 := (hcm.cell (p := ⟨B + 1, 3, none⟩) HZ.out.2).trans HF.out.2.2.2.2.2.2
      refine opIn_run (v := .int .i64 dy) (w' := w') rfl rfl (fun c h => by cases h) (fun _ => trivial) ?_ ⟨by simp [Act.put, upd, y4, hL], hcm, hph⟩
      simp only [y4, hL, cond_true, cond_false]
      go_simp
    · skip
      have y0 : L 0 = true := shut_at hs 1 0 (by kernel_rfl) (up_at hu 1 (by kernel_rfl))
      have y1 : L 1 = true := up_at hu 1 (by kernel_rfl)
      have y2 : L 2 = true := shut_at hs 3 2 (by kernel_rfl) (up_at hu 3 (by kernel_rfl))
      have y3 : L 3 = true := up_at hu 3 (by kernel_rfl)
      have y4 : L 4 = true := shut_at hs 5 4 (by kernel_rfl) (up_at hu 5 (by kernel_rfl))
      have y5 : L 5 = true := up_at hu 5 (by kernel_rfl)
      try simp only [y0, y1, y2, y3, y4, y5, hL, cond_true, cond_false] at hph
      refine opIn_call (f := 22) (args := #[.agg #[.int .i64 ox, .int .i64 oy, .int .i64 x, .int .i64 y], .int .i64 dx, .int .i64 dy]) (w' := w') rfl rfl (fun c h => by cases h) (fun _ => trivial) rfl ?_ ((callsIn_wide.2 (CP.out w')).mono ?_)
      · simp only [y0, y1, y2, y3, y4, y5, hL, cond_true, cond_false]
        go_simp
      · rintro e w2 ⟨rfl, hb⟩
        exact ⟨_, rfl, by simp [Act.put, upd, y0, y1, y2, y3, y4, y5, hL], hcm.trans (hb.mono hcm.size), trivial⟩
    · skip
      have y0 : L 0 = true := shut_at hs 1 0 (by kernel_rfl) (shut_at hs 6 1 (by kernel_rfl) (up_at hu 6 (by kernel_rfl)))
      have y1 : L 1 = true := shut_at hs 6 1 (by kernel_rfl) (up_at hu 6 (by kernel_rfl))
      have y2 : L 2 = true := shut_at hs 3 2 (by kernel_rfl) (shut_at hs 6 3 (by kernel_rfl) (up_at hu 6 (by kernel_rfl)))
      have y3 : L 3 = true := shut_at hs 6 3 (by kernel_rfl) (up_at hu 6 (by kernel_rfl))
      have y4 : L 4 = true := shut_at hs 5 4 (by kernel_rfl) (shut_at hs 6 5 (by kernel_rfl) (up_at hu 6 (by kernel_rfl)))
      have y5 : L 5 = true := shut_at hs 6 5 (by kernel_rfl) (up_at hu 6 (by kernel_rfl))
      have y6 : L 6 = true := up_at hu 6 (by kernel_rfl)
      try simp only [y0, y1, y2, y3, y4, y5, y6, hL, cond_true, cond_false] at hph
      refine opIn_call (f := 32) (args := #[.agg #[.int .i64 cx0, .int .i64 cy0, .int .i64 cx1, .int .i64 cy1]]) (w' := w') rfl rfl (fun c h => by cases h) (fun _ => trivial) rfl ?_ ((callsIn_wide.2 (CA.out w')).mono ?_)
      · simp only [y0, y1, y2, y3, y4, y5, y6, hL, cond_true, cond_false]
        go_simp
      · rintro e w2 ⟨rfl, hb⟩
        exact ⟨_, rfl, by simp [Act.put, upd, y0, y1, y2, y3, y4, y5, y6, hL], hcm.trans (hb.mono hcm.size), trivial⟩
    · skip
      have y0 : L 0 = true := up_at hu 0 (by kernel_rfl)
      have y1 : L 1 = true := up_at hu 1 (by kernel_rfl)
      have y2 : L 2 = true := up_at hu 2 (by kernel_rfl)
      have y3 : L 3 = true := up_at hu 3 (by kernel_rfl)
      have y4 : L 4 = true := up_at hu 4 (by kernel_rfl)
      have y5 : L 5 = true := up_at hu 5 (by kernel_rfl)
      have y6 : L 6 = true := up_at hu 6 (by kernel_rfl)
      have y7 : L 7 = true := up_at hu 7 (by kernel_rfl)
      refine opIn_run (v := .int .i64 ((cx1 - cx0) * (cy1 - cy0))) (w' := w') rfl rfl (fun c h => by cases h) (fun _ => trivial) ?_ ⟨by simp [Act.put, upd, y0, y1, y2, y3, y4, y5, y6, y7, hL], hcm, trivial⟩
      simp only [y0, y1, y2, y3, y4, y5, y6, y7, hL, cond_true, cond_false]
      go_simp
  case fin =>
    intro L a' w' hall hI
    obtain ⟨rfl, hcm, hph⟩ := hI
    have l0 := hall 0 (by decide)
    have l1 := hall 1 (by decide)
    have l2 := hall 2 (by decide)
    have l3 := hall 3 (by decide)
    have l4 := hall 4 (by decide)
    have l5 := hall 5 (by decide)
    have l6 := hall 6 (by decide)
    have l7 := hall 7 (by decide)
    have l8 := hall 8 (by decide)
    simp only [l0, l1, l2, l3, l4, l5, l6, l7, l8, cond_true] at hph ⊢
    clear l0 l1 l2 l3 l4 l5 l6 l7 l8 hall
    have hB := Lib.hid (HB.out.trans (hcm.mono HB.out.size))
    have HC := HCE.out
    clear hph hcm HF HZ CP CA HB
    go_wp2
    go_ret
    exact ⟨by rw [HC.1, HC.2.1, HC.2.2.1, HC.2.2.2]; rfl, hB.out⟩
end Go.Proofs.Ythcpmonahmogaaa
