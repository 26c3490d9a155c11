/- marks: size, the content of the first segment. -/
import Derived.Test.YtlbfjaifemnkpaaMkW1
import Derived.Laws.Rows
import Derived.Deep.CutRange
import Derived.Deep.CutBlock
set_option linter.unusedVariables false
set_option linter.unusedSimpArgs false
namespace Go.Proofs.Ytlbfjaifemnkpaa
open Go.RowKit Go.Shelf
attribute [local go_sem ↓] appSem_eq
set_option maxRecDepth 100000
def depthF (c : Cp) : Int := c.d - 1 + (if c.sg then 128 else 0)
set_option maxHeartbeats 4000000 in
theorem depth_any (c : Cp) (w : World) (hd : 0 ≤ c.d ∧ c.d ≤ 100) : Calls Try.prog 50 #[.agg #[.int .i64 c.d, .bool c.sg, .int .i64 c.dx, .int .i64 c.dy, .slice c.A c.n c.cap]] w fun e w' => e = .returned (.int .i64 (depthF c)) ∧ Below w.heap.size w w' := by
  obtain ⟨d, sg, dx, dy, A, n, cap⟩ := c
  unfold depthF
  simp only at hd ⊢
  obtain ⟨q, hq⟩ : ∃ q : Int, (if sg = true then (128 : Int) else 0) = q := ⟨_, rfl⟩
  have hqb : 0 ≤ q ∧ q ≤ 128 := by rw [← hq]; split <;> omega
  have WA : Hid (∀ u, Calls Try.prog 51 #[.bool sg, .int .i64 128] u fun e w' => e = .returned (.int .i64 q) ∧ u = w') := Lib.hid fun u => by
    have := when_any sg 128 u
    rw [hq] at this
    exact this
  rw [hq]
  clear hq
  obtain ⟨B, hB⟩ : ∃ B, w.heap.size = B := ⟨_, rfl⟩
  obtain ⟨w1, hw1⟩ : ∃ w1, w.alloc (.cells #[.int .i64 d, .bool sg, .int .i64 dx, .int .i64 dy, .slice A n cap] 45) = w1 := ⟨_, rfl⟩
  have H1 : Hid (Below B w w1 ∧ w1.heap[B]? = some (.cells #[.int .i64 d, .bool sg, .int .i64 dx, .int .i64 dy, .slice A n cap] 45 (0, 0))) := Lib.hid ⟨by rw [← hw1, ← hB]; exact (Below.refl _ _).alloc (Nat.le_refl _) _, by rw [← hw1, ← hB]; exact World.alloc_heap_new w _⟩
  have HE := Lib.hid (And.intro hw1 hB)
  clear hw1 hB
  have HW : Hid (IntKind.i64.wrap (d - 1) = d - 1 ∧ IntKind.i64.wrap (d - 1 + q) = d - 1 + q) := Lib.hid ⟨IntWalk.i64_in _ (by omega), IntWalk.i64_in _ (by omega)⟩
  go_enter Try.func50, Try.ntmps50
  go_upto_region 1 with fail
  rw [HE.out.1, HE.out.2]
  obtain ⟨VL, hVL⟩ : ∃ VL : Unit → List (Nat × Nat × Value), VL = fun z => [(0, 3, .pointer (some ⟨B, 0, none⟩)), (1, 4, .int .i64 d), (2, 5, .int .i64 (d - 1)), (3, 6, .pointer (some ⟨B, 1, none⟩)), (4, 7, .bool sg), (5, 8, .int .i64 q), (6, 9, .int .i64 (d - 1 + q)), (7, 2, .int .i64 (d - 1 + q))] := ⟨_, rfl⟩
  have hok : ∀ z, manyOk 10 (VL z) := fun z => by rw [hVL]; exact okB_ok rfl
  have HVL := Lib.hid hVL
  have hvi : ∀ z, ∀ x ∈ VL z, x.1 < 8 := fun z => by rw [hVL]; exact ltB_ok rfl
  have HOK := Lib.hid hok
  have HVI := Lib.hid hvi
  clear hVL hok hvi
  refine (wpIn_wide (n := 9)).1 (regionIn_many (N := 10) (w := _) VL (fun L z w' => Below B w w' ∧ w'.heap[B]? = some (.cells #[.int .i64 d, .bool sg, .int .i64 dx, .int .i64 dy, .slice A n cap] 45 (0, 0))) [(1, .pointer (some ⟨B, 0, none⟩))] (by kernel_rfl) (by kernel_rfl) rfl (by simp only [List.forall_mem_cons, List.not_mem_nil, false_imp_iff, implies_true, and_true]; exact rfl) HVI.out () ?start ?step ?fin)
  case start => exact ⟨H1.out.1.drew, H1.out.2⟩
  case step =>
    intro gg_ hgN hgF ii_ hii_ L z w' hph hs hu
    have hF1 := hgF (1, .pointer (some ⟨B, 0, none⟩)) (by simp)
    have hL := hu.1
    have hii_ : ii_ < 8 := hii_
    clear hgF
    obtain rfl | rfl | rfl | rfl | rfl | rfl | rfl | rfl := (by omega : ii_ = 0 ∨ ii_ = 1 ∨ ii_ = 2 ∨ ii_ = 3 ∨ ii_ = 4 ∨ ii_ = 5 ∨ ii_ = 6 ∨ ii_ = 7)
    · skip
      have e1 : (many gg_ L (VL z))[1]?.getD undef = .pointer (some ⟨B, 0, none⟩) := many_out3 hgN (HOK.out z) (by rw [HVL.out]; rfl) hF1
      refine opIn_run (v := .pointer (some ⟨B, 0, none⟩)) (w' := w') rfl rfl (fun c h => by cases h) (fun _ => trivial) ?_ ⟨z, by exact many_put3 (HOK.out _) (by rw [HVL.out]; rfl) hL, hph⟩
      go_simp
    · skip
      have y0 : L 0 = true := up_at hu 0 (by kernel_rfl)
      have hcell : w'.cell? ⟨B, 0, none⟩ = some (.int .i64 d) := rb_cell (hph.2) 0
      have e3 : (many gg_ L (VL z))[3]?.getD undef = .pointer (some ⟨B, 0, none⟩) := many_eval3 hgN (HOK.out z) (by rw [HVL.out]; rfl) y0
      refine opIn_run (v := .int .i64 d) (w' := w') rfl rfl (fun c h => by cases h) (fun _ => trivial) ?_ ⟨z, by exact many_put3 (HOK.out _) (by rw [HVL.out]; rfl) hL, hph⟩
      go_simp
    · skip
      have y1 : L 1 = true := up_at hu 1 (by kernel_rfl)
      have q1 := HW.out.1
      have e4 : (many gg_ L (VL z))[4]?.getD undef = .int .i64 d := many_eval3 hgN (HOK.out z) (by rw [HVL.out]; rfl) y1
      refine opIn_run (v := .int .i64 (d - 1)) (w' := w') rfl rfl (fun c h => by cases h) (fun _ => trivial) ?_ ⟨z, by exact many_put3 (HOK.out _) (by rw [HVL.out]; rfl) hL, hph⟩
      go_simp
    · skip
      have e1 : (many gg_ L (VL z))[1]?.getD undef = .pointer (some ⟨B, 0, none⟩) := many_out3 hgN (HOK.out z) (by rw [HVL.out]; rfl) hF1
      refine opIn_run (v := .pointer (some ⟨B, 1, none⟩)) (w' := w') rfl rfl (fun c h => by cases h) (fun _ => trivial) ?_ ⟨z, by exact many_put3 (HOK.out _) (by rw [HVL.out]; rfl) hL, hph⟩
      go_simp
    · skip
      have y3 : L 3 = true := up_at hu 3 (by kernel_rfl)
      have hcell : w'.cell? ⟨B, 1, none⟩ = some (.bool sg) := rb_cell (hph.2) 1
      have e6 : (many gg_ L (VL z))[6]?.getD undef = .pointer (some ⟨B, 1, none⟩) := many_eval3 hgN (HOK.out z) (by rw [HVL.out]; rfl) y3
      refine opIn_run (v := .bool sg) (w' := w') rfl rfl (fun c h => by cases h) (fun _ => trivial) ?_ ⟨z, by exact many_put3 (HOK.out _) (by rw [HVL.out]; rfl) hL, hph⟩
      go_simp
    · skip
      have y4 : L 4 = true := up_at hu 4 (by kernel_rfl)
      have e7 : (many gg_ L (VL z))[7]?.getD undef = .bool sg := many_eval3 hgN (HOK.out z) (by rw [HVL.out]; rfl) y4
      refine opIn_call (f := 51) (args := #[.bool sg, .int .i64 128]) (w' := w') rfl rfl (fun c h => by cases h) (fun _ => trivial) rfl (by go_simp) ((callsIn_wide.2 (WA.out w')).mono ?_)
      rintro e w2 ⟨rfl, rfl⟩
      exact ⟨_, rfl, z, by exact many_put3 (HOK.out _) (by rw [HVL.out]; rfl) hL, hph⟩
    · skip
      have y2 : L 2 = true := up_at hu 2 (by kernel_rfl)
      have y5 : L 5 = true := up_at hu 5 (by kernel_rfl)
      have q1 := HW.out.2
      have e5 : (many gg_ L (VL z))[5]?.getD undef = .int .i64 (d - 1) := many_eval3 hgN (HOK.out z) (by rw [HVL.out]; rfl) y2
      have e8 : (many gg_ L (VL z))[8]?.getD undef = .int .i64 q := many_eval3 hgN (HOK.out z) (by rw [HVL.out]; rfl) y5
      refine opIn_run (v := .int .i64 (d - 1 + q)) (w' := w') rfl rfl (fun c h => by cases h) (fun _ => trivial) ?_ ⟨z, by exact many_put3 (HOK.out _) (by rw [HVL.out]; rfl) hL, hph⟩
      go_simp
    · skip
      have y0 : L 0 = true := up_at hu 0 (by kernel_rfl)
      have y1 : L 1 = true := up_at hu 1 (by kernel_rfl)
      have y2 : L 2 = true := up_at hu 2 (by kernel_rfl)
      have y3 : L 3 = true := up_at hu 3 (by kernel_rfl)
      have y4 : L 4 = true := up_at hu 4 (by kernel_rfl)
      have y5 : L 5 = true := up_at hu 5 (by kernel_rfl)
      have y6 : L 6 = true := up_at hu 6 (by kernel_rfl)
      have e9 : (many gg_ L (VL z))[9]?.getD undef = .int .i64 (d - 1 + q) := many_eval3 hgN (HOK.out z) (by rw [HVL.out]; rfl) y6
      refine opIn_run (v := .int .i64 (d - 1 + q)) (w' := w') rfl rfl (fun c h => by cases h) (fun _ => trivial) ?_ ⟨z, by exact many_put3 (HOK.out _) (by rw [HVL.out]; rfl) hL, hph⟩
      go_simp
  case fin =>
    intro L z w' hall hph
    rw [HVL.out]
    dsimp only [manyL, List.set_cons_zero, List.set_cons_succ]
    clear hall HVL HOK HVI
    have HP := Lib.hid hph.1
    clear hph
    go_wp2
    go_ret
    exact ⟨rfl, by rw [HE.out.2]; exact HP.out⟩
def sizeL (h : HV) (cs : List Cp) : List Int := fldL 2 [0] ++ fldL 4 [h.X, h.Y, h.OX, h.OY, h.TX, h.TY, 0, 0] ++ fldL 2 [(h.N : Int)] ++ cs.flatMap fun c => fldL 1 [depthF c, c.dx, c.dy]
theorem sizeL_len (h : HV) (cs : List Cp) : (sizeL h cs).length = 36 + 3 * cs.length := by
  have e : ∀ l : List Cp, (l.flatMap fun c => fldL 1 [depthF c, c.dx, c.dy]).length = 3 * l.length := by
    intro l
    induction l with
    | nil => rfl
    | cons c l ih => rw [List.flatMap_cons, List.length_append, ih, fldL_len, List.length_cons]; simp; omega
  unfold sizeL
  rw [List.length_append, List.length_append, List.length_append, e, fldL_len, fldL_len, fldL_len]
  simp
set_option maxHeartbeats 8000000 in
theorem size_any {w : World} {h : HV} {cs : List Cp} {l : List Int} (H : HdOk w h cs l) (hd : ∀ c ∈ cs, 0 ≤ c.d ∧ c.d ≤ 100) :
    Calls Try.prog 24 #[.agg h.arr] w fun e w' => ∃ v, e = .returned v ∧ By w.heap.size w' v (sizeL h cs) ∧ Below w.heap.size w w' := by
  have HH := Lib.hid H
  have HD := Lib.hid hd
  obtain ⟨B, hB⟩ : ∃ B, w.heap.size = B := ⟨_, rfl⟩
  obtain ⟨w1, hw1⟩ : ∃ w1, w.alloc (.cells h.arr 33) = w1 := ⟨_, rfl⟩
  have H1 : Hid (Below B w w1 ∧ w1.heap[B]? = some (.cells h.arr 33 (0, 0)) ∧ w1.heap.size = B + 1) := Lib.hid ⟨by rw [← hw1, ← hB]; exact (Below.refl _ _).alloc (Nat.le_refl _) _, by rw [← hw1, ← hB]; exact World.alloc_heap_new w _, by rw [← hw1, ← hB]; simp⟩
  have HE := Lib.hid (And.intro hw1 hB)
  obtain ⟨X, Y, OX, OY, A, N, C, TX, TY, LV, BW, BH, PR, ST, OD, LY, RC, SO, EP, SA, sn, sc⟩ := h
  have HLN : Hid (cs.length = N ∧ N ≤ 4) := Lib.hid ⟨H.len, H.few⟩
  have hN4 : N ≤ 4 := H.few
  clear hw1 hB H hd
  have K : ∀ k, w1.cell? ⟨B, k, none⟩ = _ := fun k => rb_cell H1.out.2.1 k
  have k0 : w1.cell? ⟨B, 0, none⟩ = some (.int .i64 X) := K 0
  have k1 : w1.cell? ⟨B, 1, none⟩ = some (.int .i64 Y) := K 1
  have k2 : w1.cell? ⟨B, 2, none⟩ = some (.int .i64 OX) := K 2
  have k3 : w1.cell? ⟨B, 3, none⟩ = some (.int .i64 OY) := K 3
  have k4 : w1.cell? ⟨B, 4, none⟩ = some (.slice A N C) := K 4
  have k5 : w1.cell? ⟨B, 5, none⟩ = some (.int .i64 TX) := K 5
  have k6 : w1.cell? ⟨B, 6, none⟩ = some (.int .i64 TY) := K 6
  have HK := Lib.hid (And.intro k0 (And.intro k1 (And.intro k2 (And.intro k3 (And.intro k4 (And.intro k5 k6))))))
  clear K k0 k1 k2 k3 k4 k5 k6
  -- fields of a new row of numbers
  have NF : Hid (∀ (s : Nat) (l : List Int) (u : World), 1 ≤ s ∧ s ≤ 8 → l.length ≤ 1000 → Below B w u → B ≤ u.heap.size → Calls Try.prog 22 #[.int .i64 (s : Int), .slice (some ⟨u.heap.size, 0, none⟩) l.length l.length] (u.alloc (.cells (l.map (Value.int .i64)).toArray 3)) fun e w' => ∃ A' n' c', e = .returned (.slice A' n' c') ∧ By u.heap.size w' (.slice A' n' c') (fldL s l) ∧ Below u.heap.size u w') := Lib.hid fun s l u hs hl hb hB => by
    have hba : Below u.heap.size u (u.alloc (.cells (l.map (Value.int .i64)).toArray 3)) := (Below.refl _ _).alloc (Nat.le_refl _) _
    refine (fields_any s l.length l.length (some ⟨u.heap.size, 0, none⟩) l _ hs rfl hl (lst_news u l)).mono ?_
    rintro e w' ⟨v, rfl, hy, hb2⟩
    obtain ⟨A', c', rfl, _⟩ := By.form hy
    exact ⟨A', _, c', rfl, hy.low hba.size, hba.trans (hb2.mono hba.size)⟩
  have SZ : Hid (∀ u : World, Below B w u → B ≤ u.heap.size) := Lib.hid fun u hb => by have := hb.size; rw [HE.out.2] at this; exact this
  go_enter Try.func24, Try.ntmps24
  go_upto_region 1 with fail
  rw [show w.alloc _ = w1 from HE.out.1, HE.out.2]
  go_wp2_with fail
  refine (NF.out 2 [0] w1 (by omega) (by simp) H1.out.1 (by have := H1.out.2.2; omega)).mono ?_
  rintro e w2 ⟨A1, n1, c1, rfl, hy1, hb1⟩
  have HBK : Hid (w2.heap[B]? = some (.cells (HV.arr ⟨X, Y, OX, OY, A, N, C, TX, TY, LV, BW, BH, PR, ST, OD, LY, RC, SO, EP, SA, sn, sc⟩) 33 (0, 0))) := Lib.hid ((hb1.block B (blk_lt H1.out.2.1)).trans H1.out.2.1)
  have hs1 : w1.heap.size = B + 1 := H1.out.2.2
  have hB2 : Below B w w2 := H1.out.1.trans (hb1.mono (by omega))
  have HY1 := Lib.hid (hy1.low (show B ≤ w1.heap.size by omega))
  have HB2 := Lib.hid hB2
  clear hy1 hs1
  have k0 := (hb1.cell (p := ⟨B, 0, none⟩) (blk_lt H1.out.2.1)).trans HK.out.1
  have k1 := (hb1.cell (p := ⟨B, 1, none⟩) (blk_lt H1.out.2.1)).trans HK.out.2.1
  have k2 := (hb1.cell (p := ⟨B, 2, none⟩) (blk_lt H1.out.2.1)).trans HK.out.2.2.1
  have k3 := (hb1.cell (p := ⟨B, 3, none⟩) (blk_lt H1.out.2.1)).trans HK.out.2.2.2.1
  have k5 := (hb1.cell (p := ⟨B, 5, none⟩) (blk_lt H1.out.2.1)).trans HK.out.2.2.2.2.2.1
  have k6 := (hb1.cell (p := ⟨B, 6, none⟩) (blk_lt H1.out.2.1)).trans HK.out.2.2.2.2.2.2
  have HC4 : Hid (B < w2.heap.size ∧ w2.cell? ⟨B, 4, none⟩ = some (.slice A N C)) := Lib.hid ⟨Nat.lt_of_lt_of_le (blk_lt H1.out.2.1) hb1.size, (hb1.cell (p := ⟨B, 4, none⟩) (blk_lt H1.out.2.1)).trans HK.out.2.2.2.2.1⟩
  clear hb1 hB2
  go_wp2_with fail
  refine (NF.out 4 [X, Y, OX, OY, TX, TY, 0, 0] w2 (by omega) (by simp) HB2.out (SZ.out _ HB2.out)).mono ?_
  rintro e w3 ⟨A2, n2, c2, rfl, hy2, hb2⟩
  have hB3 : Below B w w3 := HB2.out.trans (hb2.mono (SZ.out _ HB2.out))
  obtain ⟨A3, n3, c3, w4, hr, hy3, hg⟩ := app_by (HY1.out.below hb2) (hy2.low (SZ.out _ HB2.out)) (SZ.out _ hB3) (by rw [fldL_len, fldL_len]; simp)
  have HY3 := Lib.hid hy3
  have HB4 : Hid (Below B w w4) := Lib.hid ((HY1.out.below hb2).bel hB3 (SZ.out _ hB3) hg)
  have k4 : w4.cell? ⟨B, 4, none⟩ = some (.slice A N C) := by
    have h1 := (hb2.cell (p := ⟨B, 4, none⟩) HC4.out.1).trans HC4.out.2
    have h2 := hg.block B (Nat.lt_of_lt_of_le HC4.out.1 hb2.size) (fun e => by
      have h3 := hb2.block B HC4.out.1
      have h4 := blk_not_row (show w3.heap[B]? = some (.cells (HV.arr ⟨X, Y, OX, OY, A, N, C, TX, TY, LV, BW, BH, PR, ST, OD, LY, RC, SO, EP, SA, sn, sc⟩) 33 (0, 0)) from h3.trans (HBK.out)) (by decide) (HY1.out.below hb2)
      exact h4 e.symm)
    rw [← h1]
    simp [World.cell?, h2]
  have HB4K : Hid (w4.heap[B]? = some (.cells (HV.arr ⟨X, Y, OX, OY, A, N, C, TX, TY, LV, BW, BH, PR, ST, OD, LY, RC, SO, EP, SA, sn, sc⟩) 33 (0, 0))) := Lib.hid (by
    have h3 := (hb2.block B HC4.out.1).trans HBK.out
    exact (hg.block B (Nat.lt_of_lt_of_le HC4.out.1 hb2.size) (fun e => blk_not_row h3 (by decide) (HY1.out.below hb2) e.symm)).trans h3)
  clear hy2 hb2 hB3 hy3 hg k0 k1 k2 k3 k5 k6 HC4 HB2 HY1
  go_wp2_with fail
  refine (NF.out 2 [(N : Int)] w4 (by omega) (by simp) HB4.out (SZ.out _ HB4.out)).mono ?_
  rintro e w5 ⟨A4, n4, c4, rfl, hy4, hb4⟩
  have hB5 : Below B w w5 := HB4.out.trans (hb4.mono (SZ.out _ HB4.out))
  have k4b : w5.cell? ⟨B, 4, none⟩ = some (.slice A N C) := by
    obtain ⟨cs0, h0⟩ : ∃ o, w4.heap[B]? = some o := by
      simp only [World.cell?] at k4
      cases h : w4.heap[B]? with
      | none => rw [h] at k4; simp at k4
      | some o => exact ⟨o, rfl⟩
    exact (hb4.cell (p := ⟨B, 4, none⟩) (blk_lt h0)).trans k4
  obtain ⟨A5, n5, c5, w6, hr2, hy5, hg2⟩ := app_by (HY3.out.below hb4) (hy4.low (SZ.out _ HB4.out)) (SZ.out _ hB5) (by rw [List.length_append, fldL_len, fldL_len, fldL_len]; simp)
  have HY5 := Lib.hid hy5
  have HB6 : Hid (Below B w w6) := Lib.hid ((HY3.out.below hb4).bel hB5 (SZ.out _ hB5) hg2)
  have hbk5 : w5.heap[B]? = some (.cells (HV.arr ⟨X, Y, OX, OY, A, N, C, TX, TY, LV, BW, BH, PR, ST, OD, LY, RC, SO, EP, SA, sn, sc⟩) 33 (0, 0)) := (hb4.block B (blk_lt HB4K.out)).trans HB4K.out
  have k4c : w6.cell? ⟨B, 4, none⟩ = some (.slice A N C) := by
    have h2 := hg2.block B (blk_lt hbk5) (fun e => blk_not_row hbk5 (by decide) (HY3.out.below hb4) e.symm)
    rw [← k4b]
    simp [World.cell?, h2]
  clear hy4 hb4 hB5 hy5 hg2 k4 k4b hbk5 HY3 HB4 HB4K HBK hr
  obtain ⟨PRE, hPRE⟩ : ∃ P, fldL 2 [0] ++ fldL 4 [X, Y, OX, OY, TX, TY, 0, 0] ++ fldL 2 [(N : Int)] = P := ⟨_, rfl⟩
  rw [hPRE] at HY5
  have HPRE : Hid (fldL 2 [0] ++ fldL 4 [X, Y, OX, OY, TX, TY, 0, 0] ++ fldL 2 [(N : Int)] = PRE ∧ PRE.length = 36) := Lib.hid ⟨hPRE, by rw [← hPRE, List.length_append, List.length_append, fldL_len, fldL_len, fldL_len]; simp⟩
  clear hPRE
  go_wp2_with fail
  go_loopg [3, 42] N (fun g a v wr => ∃ (j : Nat) (A' : Option Addr) (n' c' : Nat), j + g = N ∧ a = .slice A' n' c' ∧ v = .int .i64 (j : Int) ∧ Hid (By B wr (.slice A' n' c') (PRE ++ ((cs.take j).flatMap fun c => fldL 1 [depthF c, c.dx, c.dy])) ∧ Below B w wr))
  case atStart => exact ⟨0, A5, n5, c5, by omega, rfl, rfl, Lib.hid ⟨by simpa using HY5.out, HB6.out⟩⟩
  case round =>
    obtain ⟨j, A6, n6, c6, hjg, rfl, rfl, HI⟩ := hrel
    obtain ⟨wa, hwa⟩ : ∃ wa, wa = wr := ⟨wr, rfl⟩
    subst hwa
    by_cases hj : j < N
    · obtain ⟨g1, rfl⟩ : ∃ g1, gk = g1 + 1 := ⟨gk - 1, by omega⟩
      have hjI : (j : Int) < (N : Int) ∧ (0 : Int) ≤ (j : Int) := by omega
      obtain ⟨c, hc⟩ : ∃ c, cs[j]? = some c := ⟨_, List.getElem?_eq_getElem (by rw [HLN.out.1]; exact hj)⟩
      obtain ⟨g, cap, hv, hgl, _, _, q0, q1, q2, q3, q4⟩ := HH.out.row j c hc
      have hdb := HD.out c (List.mem_of_getElem? hc)
      injection hv with hv1 hv2 hv3
      simp only at hv1
      subst hv1
      have hgB : g < B := by rw [← HE.out.2]; exact hgl
      have e0 := (HI.out.2.cell (p := ⟨g, j * 5, none⟩) hgB).trans q0
      have e1 := (HI.out.2.cell (p := ⟨g, j * 5 + 1, none⟩) hgB).trans q1
      have e2 := (HI.out.2.cell (p := ⟨g, j * 5 + 2, none⟩) hgB).trans q2
      have e3 := (HI.out.2.cell (p := ⟨g, j * 5 + 3, none⟩) hgB).trans q3
      have e4 := (HI.out.2.cell (p := ⟨g, j * 5 + 4, none⟩) hgB).trans q4
      have DA := Lib.hid (fun u => depth_any c u hdb)
      have HX : Hid (PRE ++ ((cs.take (j + 1)).flatMap fun c => fldL 1 [depthF c, c.dx, c.dy]) = (PRE ++ ((cs.take j).flatMap fun c => fldL 1 [depthF c, c.dx, c.dy])) ++ fldL 1 [depthF c, c.dx, c.dy]) := Lib.hid (by rw [List.take_add_one, hc]; simp)
      have HLE : Hid ((PRE ++ ((cs.take j).flatMap fun c => fldL 1 [depthF c, c.dx, c.dy])).length ≤ 100) := Lib.hid (by
        have e : ∀ l : List Cp, (l.flatMap fun c => fldL 1 [depthF c, c.dx, c.dy]).length = 3 * l.length := by
          intro l
          induction l with
          | nil => rfl
          | cons c l ih => rw [List.flatMap_cons, List.length_append, ih, fldL_len, List.length_cons]; simp; omega
        rw [List.length_append, e, HPRE.out.2, List.length_take]
        omega)
      clear hc q0 q1 q2 q3 q4 hdb hv2 hv3 hgB hgl
      go_upto_region 7 with fail
      clear e0 e1 e2 e3 e4
      obtain ⟨q, hq⟩ : ∃ q, wa.heap.size = q := ⟨_, rfl⟩
      obtain ⟨wq, hwq⟩ : ∃ wq, wa.alloc (Obj.cells #[.int .i64 c.d, .bool c.sg, .int .i64 c.dx, .int .i64 c.dy, .slice c.A c.n c.cap] 45) = wq := ⟨_, rfl⟩
      rw [hq]
      rw [hwq]
      have HQB : Hid (wq.heap[q]? = some (.cells #[.int .i64 c.d, .bool c.sg, .int .i64 c.dx, .int .i64 c.dy, .slice c.A c.n c.cap] 45 (0, 0)) ∧ By B wq (.slice A6 n6 c6) (PRE ++ ((cs.take j).flatMap fun c => fldL 1 [depthF c, c.dx, c.dy])) ∧ Below B w wq) := Lib.hid (by
        have hb : Below wa.heap.size wa wq := by rw [← hwq]; exact (Below.refl _ _).alloc (Nat.le_refl _) _
        exact ⟨by rw [← hwq, ← hq]; exact World.alloc_heap_new wa _, HI.out.1.below hb, HI.out.2.trans (hb.mono (SZ.out _ HI.out.2))⟩)
      clear hq hwq HI
      obtain ⟨VL, hVL⟩ : ∃ VL : Nat × (Option Addr × Nat × Nat) × (Option Addr × Nat × Nat) → List (Nat × Nat × Value), VL = fun z => [(0, 46, .slice A6 n6 c6), (1, 47, .agg #[.int .i64 c.d, .bool c.sg, .int .i64 c.dx, .int .i64 c.dy, .slice c.A c.n c.cap]), (2, 48, .int .i64 (depthF c)), (3, 49, .pointer (some ⟨q, 2, none⟩)), (4, 50, .int .i64 c.dx), (5, 51, .pointer (some ⟨q, 3, none⟩)), (6, 52, .int .i64 c.dy), (7, 53, .slice (some ⟨z.1, 0, none⟩) 3 3), (8, 54, .slice z.2.1.1 z.2.1.2.1 z.2.1.2.2), (9, 55, .slice z.2.2.1 z.2.2.2.1 z.2.2.2.2), (10, 3, .slice z.2.2.1 z.2.2.2.1 z.2.2.2.2)] := ⟨_, rfl⟩
      have hok : ∀ z, manyOk 58 (VL z) := fun z => by rw [hVL]; exact okB_ok rfl
      have HVL := Lib.hid hVL
      have hvi : ∀ z, ∀ x ∈ VL z, x.1 < 11 := fun z => by rw [hVL]; exact ltB_ok rfl
      have HOK := Lib.hid hok
      have HVI := Lib.hid hvi
      clear hVL hok hvi
      refine (wpIn_wide (n := 9)).1 (regionIn_many (N := 58) (w := _) VL (fun L z w' => ((L 9 = false → Below wq.heap.size wq w') ∧ (L 9 = false → L 7 = true → Lst w' w'.heap.size (some ⟨z.1, 0, none⟩) (([depthF c, c.dx, c.dy] : List Int).map (Value.int .i64))) ∧ (L 9 = false → L 8 = true → By B w' (.slice z.2.1.1 z.2.1.2.1 z.2.1.2.2) (fldL 1 [depthF c, c.dx, c.dy])) ∧ (L 9 = true → By B w' (.slice z.2.2.1 z.2.2.2.1 z.2.2.2.2) (PRE ++ ((cs.take (j + 1)).flatMap fun c => fldL 1 [depthF c, c.dx, c.dy])) ∧ Below B w w')) ∧ True) [(3, .slice A6 n6 c6), (5, .pointer (some ⟨q, 0, none⟩))] (by kernel_rfl) (by kernel_rfl) rfl (by simp only [List.forall_mem_cons, List.not_mem_nil, false_imp_iff, implies_true, and_true]; exact ⟨rfl, rfl⟩) HVI.out (0, (none, 0, 0), (none, 0, 0)) ?start ?step ?fin)
      case start => exact ⟨⟨fun _ => (Below.refl _ _).drew, fun _ h => (by cases h), fun _ h => (by cases h), fun h => (by cases h)⟩, trivial⟩
      case step =>
        intro gg_ hgN hgF ii_ hii_ L z w' hph hs hu
        obtain ⟨hcm, hph⟩ := hph
        have hF3 := hgF (3, .slice A6 n6 c6) (by simp)
        have hF5 := hgF (5, .pointer (some ⟨q, 0, none⟩)) (by simp)
        have hL := hu.1
        have hii_ : ii_ < 11 := hii_
        clear hgF
        obtain rfl | rfl | rfl | rfl | rfl | rfl | rfl | rfl | rfl | rfl | rfl := (by omega : ii_ = 0 ∨ ii_ = 1 ∨ ii_ = 2 ∨ ii_ = 3 ∨ ii_ = 4 ∨ ii_ = 5 ∨ ii_ = 6 ∨ ii_ = 7 ∨ ii_ = 8 ∨ ii_ = 9 ∨ ii_ = 10)
        · skip
          have n9 : L 9 = false := not_yet hL fun h => shut_at hs 9 0 (by kernel_rfl) (h)
          have n10 : L 10 = false := not_yet hL fun h => shut_at hs 10 0 (by kernel_rfl) (h)
          have e3 : (many gg_ L (VL z))[3]?.getD undef = .slice A6 n6 c6 := many_out3' hgN (HOK.out z) (by rw [HVL.out]; rfl) (by assumption) hF3
          refine opIn_run (v := .slice A6 n6 c6) (w' := w') rfl rfl (fun c h => by cases h) (fun _ => trivial) ?_ ⟨z, by exact many_put3 (HOK.out _) (by rw [HVL.out]; rfl) hL, hcm, hph⟩
          go_simp
        · skip
          have n2 : L 2 = false := not_yet hL fun h => shut_at hs 2 1 (by kernel_rfl) (h)
          have n7 : L 7 = false := not_yet hL fun h => shut_at hs 2 1 (by kernel_rfl) (shut_at hs 7 2 (by kernel_rfl) (h))
          have n8 : L 8 = false := not_yet hL fun h => shut_at hs 2 1 (by kernel_rfl) (shut_at hs 8 2 (by kernel_rfl) (h))
          have n9 : L 9 = false := not_yet hL fun h => shut_at hs 2 1 (by kernel_rfl) (shut_at hs 8 2 (by kernel_rfl) (shut_at hs 9 8 (by kernel_rfl) (h)))
          have n10 : L 10 = false := not_yet hL fun h => shut_at hs 10 1 (by kernel_rfl) (h)
          have e5 : (many gg_ L (VL z))[5]?.getD undef = .pointer (some ⟨q, 0, none⟩) := many_out3 hgN (HOK.out z) (by rw [HVL.out]; rfl) hF5
          refine opIn_run (v := .agg #[.int .i64 c.d, .bool c.sg, .int .i64 c.dx, .int .i64 c.dy, .slice c.A c.n c.cap]) (w' := w') rfl rfl (fun c h => by cases h) (fun _ => trivial) ?_ ⟨z, by exact many_put3 (HOK.out _) (by rw [HVL.out]; rfl) hL, hcm, trivial⟩
          exact run_load_many e5 (((hcm.1 n9).block q (blk_lt HQB.out.1)).trans HQB.out.1) Try.underlying45 rfl (by kernel_rfl)
        · skip
          have y1 : L 1 = true := up_at hu 1 (by kernel_rfl)
          have n7 : L 7 = false := not_yet hL fun h => shut_at hs 7 2 (by kernel_rfl) (h)
          have n8 : L 8 = false := not_yet hL fun h => shut_at hs 8 2 (by kernel_rfl) (h)
          have n9 : L 9 = false := not_yet hL fun h => shut_at hs 8 2 (by kernel_rfl) (shut_at hs 9 8 (by kernel_rfl) (h))
          have n10 : L 10 = false := not_yet hL fun h => shut_at hs 10 2 (by kernel_rfl) (h)
          have e47 : (many gg_ L (VL z))[47]?.getD undef = .agg #[.int .i64 c.d, .bool c.sg, .int .i64 c.dx, .int .i64 c.dy, .slice c.A c.n c.cap] := many_eval3 hgN (HOK.out z) (by rw [HVL.out]; rfl) y1
          refine opIn_call (f := 50) (args := #[.agg #[.int .i64 c.d, .bool c.sg, .int .i64 c.dx, .int .i64 c.dy, .slice c.A c.n c.cap]]) (w' := w') rfl rfl (fun c h => by cases h) (fun _ => trivial) rfl (by go_simp) ((callsIn_wide.2 (DA.out w')).mono ?_)
          rintro e w2 ⟨rfl, hb⟩
          exact ⟨_, rfl, z, by exact many_put3 (HOK.out _) (by rw [HVL.out]; rfl) hL, ⟨fun _ => (hcm.1 n9).trans (hb.mono (hcm.1 n9).size), fun _ a => ((hcm.2.1 n9 a).below hb).more hb.size, fun _ a => (hcm.2.2.1 n9 a).below hb, fun a => absurd a (by simp [upd, n9])⟩, trivial⟩
        · skip
          have n7 : L 7 = false := not_yet hL fun h => shut_at hs 4 3 (by kernel_rfl) (shut_at hs 7 4 (by kernel_rfl) (h))
          have n8 : L 8 = false := not_yet hL fun h => shut_at hs 4 3 (by kernel_rfl) (shut_at hs 7 4 (by kernel_rfl) (shut_at hs 8 7 (by kernel_rfl) (h)))
          have n9 : L 9 = false := not_yet hL fun h => shut_at hs 4 3 (by kernel_rfl) (shut_at hs 7 4 (by kernel_rfl) (shut_at hs 8 7 (by kernel_rfl) (shut_at hs 9 8 (by kernel_rfl) (h))))
          have n10 : L 10 = false := not_yet hL fun h => shut_at hs 10 3 (by kernel_rfl) (h)
          have e5 : (many gg_ L (VL z))[5]?.getD undef = .pointer (some ⟨q, 0, none⟩) := many_out3 hgN (HOK.out z) (by rw [HVL.out]; rfl) hF5
          refine opIn_run (v := .pointer (some ⟨q, 2, none⟩)) (w' := w') rfl rfl (fun c h => by cases h) (fun _ => trivial) ?_ ⟨z, by exact many_put3 (HOK.out _) (by rw [HVL.out]; rfl) hL, hcm, hph⟩
          go_simp
        · skip
          have y3 : L 3 = true := up_at hu 3 (by kernel_rfl)
          have n7 : L 7 = false := not_yet hL fun h => shut_at hs 7 4 (by kernel_rfl) (h)
          have n8 : L 8 = false := not_yet hL fun h => shut_at hs 7 4 (by kernel_rfl) (shut_at hs 8 7 (by kernel_rfl) (h))
          have n9 : L 9 = false := not_yet hL fun h => shut_at hs 7 4 (by kernel_rfl) (shut_at hs 8 7 (by kernel_rfl) (shut_at hs 9 8 (by kernel_rfl) (h)))
          have n10 : L 10 = false := not_yet hL fun h => shut_at hs 10 4 (by kernel_rfl) (h)
          have hcell : w'.cell? ⟨q, 2, none⟩ = some (.int .i64 c.dx) := rb_cell (((hcm.1 n9).block q (blk_lt HQB.out.1)).trans HQB.out.1) 2
          have e49 : (many gg_ L (VL z))[49]?.getD undef = .pointer (some ⟨q, 2, none⟩) := many_eval3 hgN (HOK.out z) (by rw [HVL.out]; rfl) y3
          refine opIn_run (v := .int .i64 c.dx) (w' := w') rfl rfl (fun c h => by cases h) (fun _ => trivial) ?_ ⟨z, by exact many_put3 (HOK.out _) (by rw [HVL.out]; rfl) hL, hcm, hph⟩
          go_simp
        · skip
          have n7 : L 7 = false := not_yet hL fun h => shut_at hs 6 5 (by kernel_rfl) (shut_at hs 7 6 (by kernel_rfl) (h))
          have n8 : L 8 = false := not_yet hL fun h => shut_at hs 6 5 (by kernel_rfl) (shut_at hs 7 6 (by kernel_rfl) (shut_at hs 8 7 (by kernel_rfl) (h)))
          have n9 : L 9 = false := not_yet hL fun h => shut_at hs 6 5 (by kernel_rfl) (shut_at hs 7 6 (by kernel_rfl) (shut_at hs 8 7 (by kernel_rfl) (shut_at hs 9 8 (by kernel_rfl) (h))))
          have n10 : L 10 = false := not_yet hL fun h => shut_at hs 10 5 (by kernel_rfl) (h)
          have e5 : (many gg_ L (VL z))[5]?.getD undef = .pointer (some ⟨q, 0, none⟩) := many_out3 hgN (HOK.out z) (by rw [HVL.out]; rfl) hF5
          refine opIn_run (v := .pointer (some ⟨q, 3, none⟩)) (w' := w') rfl rfl (fun c h => by cases h) (fun _ => trivial) ?_ ⟨z, by exact many_put3 (HOK.out _) (by rw [HVL.out]; rfl) hL, hcm, hph⟩
          go_simp
        · skip
          have y5 : L 5 = true := up_at hu 5 (by kernel_rfl)
          have n7 : L 7 = false := not_yet hL fun h => shut_at hs 7 6 (by kernel_rfl) (h)
          have n8 : L 8 = false := not_yet hL fun h => shut_at hs 7 6 (by kernel_rfl) (shut_at hs 8 7 (by kernel_rfl) (h))
          have n9 : L 9 = false := not_yet hL fun h => shut_at hs 7 6 (by kernel_rfl) (shut_at hs 8 7 (by kernel_rfl) (shut_at hs 9 8 (by kernel_rfl) (h)))
          have n10 : L 10 = false := not_yet hL fun h => shut_at hs 10 6 (by kernel_rfl) (h)
          have hcell : w'.cell? ⟨q, 3, none⟩ = some (.int .i64 c.dy) := rb_cell (((hcm.1 n9).block q (blk_lt HQB.out.1)).trans HQB.out.1) 3
          have e51 : (many gg_ L (VL z))[51]?.getD undef = .pointer (some ⟨q, 3, none⟩) := many_eval3 hgN (HOK.out z) (by rw [HVL.out]; rfl) y5
          refine opIn_run (v := .int .i64 c.dy) (w' := w') rfl rfl (fun c h => by cases h) (fun _ => trivial) ?_ ⟨z, by exact many_put3 (HOK.out _) (by rw [HVL.out]; rfl) hL, hcm, hph⟩
          go_simp
        · skip
          have y2 : L 2 = true := up_at hu 2 (by kernel_rfl)
          have y4 : L 4 = true := up_at hu 4 (by kernel_rfl)
          have y6 : L 6 = true := up_at hu 6 (by kernel_rfl)
          have n8 : L 8 = false := not_yet hL fun h => shut_at hs 8 7 (by kernel_rfl) (h)
          have n9 : L 9 = false := not_yet hL fun h => shut_at hs 8 7 (by kernel_rfl) (shut_at hs 9 8 (by kernel_rfl) (h))
          have n10 : L 10 = false := not_yet hL fun h => shut_at hs 10 7 (by kernel_rfl) (h)
          have e48 : (many gg_ L (VL z))[48]?.getD undef = .int .i64 (depthF c) := many_eval3 hgN (HOK.out z) (by rw [HVL.out]; rfl) y2
          have e50 : (many gg_ L (VL z))[50]?.getD undef = .int .i64 c.dx := many_eval3 hgN (HOK.out z) (by rw [HVL.out]; rfl) y4
          have e52 : (many gg_ L (VL z))[52]?.getD undef = .int .i64 c.dy := many_eval3 hgN (HOK.out z) (by rw [HVL.out]; rfl) y6
          refine opIn_run (v := (.slice (some ⟨w'.heap.size, 0, none⟩) 3 3)) (w' := w'.alloc (.cells #[.int .i64 (depthF c), .int .i64 c.dx, .int .i64 c.dy] 3)) rfl rfl (fun c h => by cases h) (fun _ => trivial) ?_ ⟨(w'.heap.size, z.2), by rw [show many gg_ L (VL z) = many gg_ L (VL (w'.heap.size, z.2)) from by rw [HVL.out]; simp only [many, y2, y4, y6, n8, n9, n10, hL, cond_false, cond_true]]; exact many_put3 (HOK.out _) (by rw [HVL.out]; rfl) hL, ⟨fun _ => (hcm.1 n9).alloc (hcm.1 n9).size _, fun _ _ => lst_news w' [depthF c, c.dx, c.dy], fun _ a => absurd a (by simp [upd, n8]), fun a => absurd a (by simp [upd, n9])⟩, trivial⟩
          go_simp
        · skip
          have y2 : L 2 = true := up_at hu 2 (by kernel_rfl)
          have y7 : L 7 = true := up_at hu 7 (by kernel_rfl)
          have n9 : L 9 = false := not_yet hL fun h => shut_at hs 9 8 (by kernel_rfl) (h)
          have n10 : L 10 = false := not_yet hL fun h => shut_at hs 10 8 (by kernel_rfl) (h)
          have e53 : (many gg_ L (VL z))[53]?.getD undef = .slice (some ⟨z.1, 0, none⟩) 3 3 := many_eval3 hgN (HOK.out z) (by rw [HVL.out]; rfl) y7
          refine opIn_call (f := 22) (args := #[.int .i64 1, .slice (some ⟨z.1, 0, none⟩) 3 3]) (w' := w') rfl rfl (fun c h => by cases h) (fun _ => trivial) rfl (by go_simp) ((callsIn_wide.2 (fields_any 1 3 3 (some ⟨z.1, 0, none⟩) [depthF c, c.dx, c.dy] w' (by omega) rfl (by omega) (hcm.2.1 n9 y7))).mono ?_)
          rintro e w2 ⟨vv, rfl, hy, hb⟩
          obtain ⟨A8, c8, rfl, _⟩ := By.form hy
          exact ⟨_, rfl, (z.1, (A8, _, c8), z.2.2), by rw [show many gg_ L (VL z) = many gg_ L (VL (z.1, (A8, _, c8), z.2.2)) from by rw [HVL.out]; simp only [many, y2, y7, n9, n10, hL, cond_false, cond_true]]; exact many_put3 (HOK.out _) (by rw [HVL.out]; rfl) hL, ⟨fun _ => (hcm.1 n9).trans (hb.mono (hcm.1 n9).size), fun _ a => ((hcm.2.1 n9 y7).below hb).more hb.size, fun _ _ => hy.low (SZ.out _ (HQB.out.2.2.trans ((hcm.1 n9).mono (SZ.out _ HQB.out.2.2)))), fun a => absurd a (by simp [upd, n9])⟩, trivial⟩
        · skip
          have y0 : L 0 = true := up_at hu 0 (by kernel_rfl)
          have y8 : L 8 = true := up_at hu 8 (by kernel_rfl)
          have n10 : L 10 = false := not_yet hL fun h => shut_at hs 10 9 (by kernel_rfl) (h)
          have hb0 : Below B w w' := HQB.out.2.2.trans ((hcm.1 hL).mono (SZ.out _ HQB.out.2.2))
          obtain ⟨A9, n9_, c9, w9, hr9, hy9, hg9⟩ := app_by (HQB.out.2.1.below (hcm.1 hL)) (hcm.2.2.1 hL y8) (SZ.out _ hb0) (by have := HLE.out; have h3 := fldL_len 1 [depthF c, c.dx, c.dy]; simp only [List.length_cons, List.length_nil] at h3; omega)
          have e46 : (many gg_ L (VL z))[46]?.getD undef = .slice A6 n6 c6 := many_eval3 hgN (HOK.out z) (by rw [HVL.out]; rfl) y0
          have e54 : (many gg_ L (VL z))[54]?.getD undef = .slice z.2.1.1 z.2.1.2.1 z.2.1.2.2 := many_eval3 hgN (HOK.out z) (by rw [HVL.out]; rfl) y8
          refine opIn_run (v := (.slice A9 n9_ c9)) (w' := w9) rfl rfl (fun c h => by cases h) (fun _ => trivial) ?_ ⟨(z.1, z.2.1, (A9, n9_, c9)), by rw [show many gg_ L (VL z) = many gg_ L (VL (z.1, z.2.1, (A9, n9_, c9))) from by rw [HVL.out]; simp only [many, y0, y8, n10, hL, cond_false, cond_true]]; exact many_put3 (HOK.out _) (by rw [HVL.out]; rfl) hL, ⟨fun a => absurd a (by simp [upd_self]), fun a => absurd a (by simp [upd_self]), fun a => absurd a (by simp [upd_self]), fun _ => ⟨by rw [HX.out]; exact hy9, (HQB.out.2.1.below (hcm.1 hL)).bel hb0 (SZ.out _ hb0) hg9⟩⟩, trivial⟩
          go_simp
        · skip
          have y0 : L 0 = true := up_at hu 0 (by kernel_rfl)
          have y1 : L 1 = true := up_at hu 1 (by kernel_rfl)
          have y2 : L 2 = true := up_at hu 2 (by kernel_rfl)
          have y3 : L 3 = true := up_at hu 3 (by kernel_rfl)
          have y4 : L 4 = true := up_at hu 4 (by kernel_rfl)
          have y5 : L 5 = true := up_at hu 5 (by kernel_rfl)
          have y6 : L 6 = true := up_at hu 6 (by kernel_rfl)
          have y7 : L 7 = true := up_at hu 7 (by kernel_rfl)
          have y8 : L 8 = true := up_at hu 8 (by kernel_rfl)
          have y9 : L 9 = true := up_at hu 9 (by kernel_rfl)
          have e55 : (many gg_ L (VL z))[55]?.getD undef = .slice z.2.2.1 z.2.2.2.1 z.2.2.2.2 := many_eval3 hgN (HOK.out z) (by rw [HVL.out]; rfl) y9
          refine opIn_run (v := .slice z.2.2.1 z.2.2.2.1 z.2.2.2.2) (w' := w') rfl rfl (fun c h => by cases h) (fun _ => trivial) ?_ ⟨z, by exact many_put3 (HOK.out _) (by rw [HVL.out]; rfl) hL, hcm, hph⟩
          go_simp
      case fin =>
        intro L z w' hall hph
        obtain ⟨hcm, hph⟩ := hph
        have KF := hcm.2.2.2 (hall 9 (by decide))
        obtain ⟨z1, z2, A7, n7_, c7⟩ := z
        simp only at KF
        have KF := Lib.hid KF
        clear hcm hph
        rw [HVL.out]
        dsimp only [manyL, List.set_cons_zero, List.set_cons_succ]
        clear hall HVL HOK HVI
        go_wp2
        go_roundg g1
        case measure => omega
        case rel => exact ⟨j + 1, A7, n7_, c7, by omega, rfl, by go_num, KF⟩
    · obtain rfl : j = N := by omega
      have hlc : ¬ (j : Int) < (j : Int) := by omega
      have hf := HI.out.1
      rw [List.take_of_length_le (by rw [HLN.out.1]; exact Nat.le_refl _), ← HPRE.out.1] at hf
      have HF := Lib.hid hf
      clear hf
      go_wp2
      go_ret
      exact ⟨_, rfl, by rw [HE.out.2]; exact HF.out, by rw [HE.out.2]; exact HI.out.2⟩
end Go.Proofs.Ytlbfjaifemnkpaa
