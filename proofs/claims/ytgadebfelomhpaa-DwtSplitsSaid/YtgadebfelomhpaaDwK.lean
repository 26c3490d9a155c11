/- known, Plane, rows of chapter 10's laws, by their contracts. -/
import Derived.Test.YtgadebfelomhpaaDwU
import Derived.Outline
import Derived.StillTailTactics
set_option linter.unusedVariables false
set_option linter.unusedSimpArgs false
namespace Go.Proofs.Ytgadebfelomhpaa
open Go.RowKit

theorem flat_of (w h : Nat) (r : Nat → Int) : flat w h (fun x y => r (y * w + x)) = ranged r (w * h) := ranged_congr fun k _ => by
  show r (k / w * w + k % w) = r k
  rw [Nat.mul_comm, Nat.div_add_mod]
/-- The plane of a row of numbers. -/
def plP (w : Nat) (l : List Int) : Nat → Nat → Int := fun x y => l.getD (y * w + x) 0
theorem flat_pl {w h : Nat} {l : List Int} (hl : l.length = w * h) : flat w h (plP w l) = l := by
  unfold plP
  rw [flat_of w h (fun k => l.getD k 0), ranged_of l _ hl]

set_option maxHeartbeats 2000000 in
theorem known10 (w : World) : Calls Try.prog 11 #[] w fun e w' => e = .returned (.bool true) ∧ Below w.heap.size w w' := by
  have hD := fun W A c h => dsplit_any ⟨3, 4, 2, 1⟩ (plP 2 [7, 8]) 0 A c W (by decide) (by decide) (by decide) (by decide) (fun x y hx hy => by
    have : y = 0 := by simp only at hy; omega
    subst this
    rcases (by simp only at hx; omega : x = 0 ∨ x = 1) with rfl | rfl <;> decide) h
  have hf : flat 2 1 (plP 2 [7, 8]) = [7, 8] := by decide
  have hb : bandsL ⟨3, 4, 2, 1⟩ (plP 2 [7, 8]) 0 = [[7, 8]] := by decide
  rw [hf, hb] at hD
  go_enter Try.func11, Try.ntmps11
  go_wp2_with fail
  have hb0 : Below w.heap.size w (w.alloc (Obj.cells (([7, 8] : List Int).map (Value.int .i64)).toArray 3)) := (Below.refl _ _).alloc (Nat.le_refl _) _
  refine (hD (w.alloc (Obj.cells (([7, 8] : List Int).map (Value.int .i64)).toArray 3)) (some ⟨w.heap.size, 0, none⟩) 2 (rowI_new w [7, 8] (by decide))).mono ?_
  rintro e w1 ⟨A1, c1, rfl, h1, d1⟩
  obtain ⟨b1, o1, A2, c2, rfl, q1, r1, h2⟩ := h1.at (i := 0) (l := [7, 8]) rfl
  obtain ⟨b3, o3, rfl, q3, r3⟩ := h2.cell (k := 1) (by decide)
  change w1.cell? ⟨b1, o1, none⟩ = some (.slice (some ⟨b3, o3, none⟩) 2 c2) at r1
  change w1.cell? ⟨b3, o3 + 1, none⟩ = some (.int .i64 8) at r3
  have hb1 := hb0.trans (d1.mono hb0.size)
  clear hb0 d1 h1 h2 hD hf hb
  go_wp2
  go_ret
  exact ⟨rfl, hb1⟩

/-- The rectangle of raw numbers. -/
def geoR (a0 a1 a2 a3 : Int) : Geo := ⟨(a0 % 40).toNat, (a1 % 40).toNat, (a2 % 13).toNat, (a3 % 13).toNat⟩
theorem geoR_bd (a0 a1 a2 a3 : Int) : (geoR a0 a1 a2 a3).x ≤ 39 ∧ (geoR a0 a1 a2 a3).y ≤ 39 ∧ (geoR a0 a1 a2 a3).w ≤ 12 ∧ (geoR a0 a1 a2 a3).h ≤ 12 := by
  unfold geoR
  simp only
  omega
theorem geoR_rect (a0 a1 a2 a3 : Int) : rectV (geoR a0 a1 a2 a3) = .agg #[.int .i64 (a0 % 40), .int .i64 (a1 % 40), .int .i64 (a0 % 40 + a2 % 13), .int .i64 (a1 % 40 + a3 % 13)] := by
  unfold rectV geoR
  have h0 : ((a0 % 40).toNat : Int) = a0 % 40 := by omega
  have h1 : ((a1 % 40).toNat : Int) = a1 % 40 := by omega
  have h2 : (((a0 % 40).toNat + (a2 % 13).toNat : Nat) : Int) = a0 % 40 + a2 % 13 := by omega
  have h3 : (((a1 % 40).toNat + (a3 % 13).toNat : Nat) : Int) = a1 % 40 + a3 % 13 := by omega
  simp only [h0, h1, h2, h3]

set_option maxHeartbeats 4000000 in
set_option maxRecDepth 100000 in
set_option pp.deepTerms true in
set_option pp.maxSteps 10000000 in
theorem plane_any {A : Option Addr} {n c : Nat} {l : List Int} (a0 a1 a2 a3 : Int) (w : World) (h : RowI w A n c l) :
    Calls Try.prog 12 #[.agg #[.int .i64 a0, .int .i64 a1, .int .i64 a2, .int .i64 a3], .slice A n c] w fun e w' => ∃ P A' c', e = .returned (.tuple #[rectV (geoR a0 a1 a2 a3), .slice A' ((geoR a0 a1 a2 a3).w * (geoR a0 a1 a2 a3).h) c']) ∧
      RowI w' A' ((geoR a0 a1 a2 a3).w * (geoR a0 a1 a2 a3).h) c' (flat (geoR a0 a1 a2 a3).w (geoR a0 a1 a2 a3).h P) ∧ Bd 600000 (geoR a0 a1 a2 a3).w (geoR a0 a1 a2 a3).h P ∧ (∀ b o, A' = some ⟨b, o, none⟩ → w.heap.size < b) ∧ Below w.heap.size w w' := by
  have H := Lib.hid h
  clear h
  rw [geoR_rect]
  have hg := geoR_bd a0 a1 a2 a3
  have hgw : ((geoR a0 a1 a2 a3).w : Int) = a2 % 13 := by unfold geoR; simp only; omega
  have hgh : ((geoR a0 a1 a2 a3).h : Int) = a3 % 13 := by unfold geoR; simp only; omega
  obtain ⟨gw, egw⟩ : ∃ gw, (geoR a0 a1 a2 a3).w = gw := ⟨_, rfl⟩
  obtain ⟨gh, egh⟩ : ∃ gh, (geoR a0 a1 a2 a3).h = gh := ⟨_, rfl⟩
  rw [egw] at hg hgw ⊢
  rw [egh] at hg hgh ⊢
  have hx : 0 ≤ a0 % 40 ∧ a0 % 40 ≤ 39 := by omega
  have hy : 0 ≤ a1 % 40 ∧ a1 % 40 ≤ 39 := by omega
  have hw : 0 ≤ a2 % 13 ∧ a2 % 13 ≤ 12 := by omega
  have hh : 0 ≤ a3 % 13 ∧ a3 % 13 ≤ 12 := by omega
  have hw0 := fun W => (within10 a0 40 W (by omega) (by omega)).mono (fun e w' h => (⟨h.1, h.2.symm⟩ : _ ∧ w' = W))
  have hw1 := fun W => (within10 a1 40 W (by omega) (by omega)).mono (fun e w' h => (⟨h.1, h.2.symm⟩ : _ ∧ w' = W))
  have hw2 := fun W => (within10 a2 13 W (by omega) (by omega)).mono (fun e w' h => (⟨h.1, h.2.symm⟩ : _ ∧ w' = W))
  have hw3 := fun W => (within10 a3 13 W (by omega) (by omega)).mono (fun e w' h => (⟨h.1, h.2.symm⟩ : _ ∧ w' = W))
  generalize a0 % 40 = x at *
  generalize a1 % 40 = y at *
  clear egw egh
  have hgw2 := hg.2.2.1
  have hgh2 := hg.2.2.2
  clear hg
  obtain ⟨rw', hrw⟩ : ∃ v, a2 % 13 = v := ⟨_, rfl⟩
  obtain ⟨rh', hrh⟩ : ∃ v, a3 % 13 = v := ⟨_, rfl⟩
  rw [hrw] at hgw hw hw2 ⊢
  rw [hrh] at hgh hh hw3 ⊢
  clear hrw hrh
  obtain rfl := hgw
  obtain rfl := hgh
  clear hw hh
  have s1 : IntKind.i64.wrap (x + (gw : Int)) = x + (gw : Int) := IntWalk.i64_in _ (by omega)
  have s2 : IntKind.i64.wrap (y + (gh : Int)) = y + (gh : Int) := IntWalk.i64_in _ (by omega)
  have s3 : x + (gw : Int) - x = (gw : Int) := by omega
  have s4 : y + (gh : Int) - y = (gh : Int) := by omega
  have hmm : gw * gh ≤ 144 := Nat.mul_le_mul hgw2 hgh2
  have HS3 := Lib.hid s3
  have HS4 := Lib.hid s4
  clear s3 s4
  obtain ⟨X1, hX1⟩ : ∃ v, x + (gw : Int) = v := ⟨_, rfl⟩
  obtain ⟨Y1, hY1⟩ : ∃ v, y + (gh : Int) = v := ⟨_, rfl⟩
  rw [hX1] at s1 HS3 ⊢
  rw [hY1] at s2 HS4 ⊢
  have HXE := Lib.hid hX1
  have HYE := Lib.hid hY1
  clear hX1 hY1
  go_enter Try.func12, Try.ntmps12
  go_wp2
  -- R1
  obtain ⟨X, hX⟩ : ∃ X, (w.alloc (Obj.cells #[.int .i64 a0, .int .i64 a1, .int .i64 a2, .int .i64 a3] 23)).alloc (Obj.cells #[.int .i64 0, .int .i64 0, .int .i64 0, .int .i64 0] 23) = X := ⟨_, rfl⟩
  have hB : Below w.heap.size w X := by rw [← hX]; exact ((Below.refl _ w).alloc (Nat.le_refl _) _).alloc (by simp) _
  have hz : (w.alloc (Obj.cells #[.int .i64 a0, .int .i64 a1, .int .i64 a2, .int .i64 a3] 23)).heap.size = w.heap.size + 1 := by simp
  have r1 : RA X w.heap.size a0 a1 a2 a3 := by
    unfold RA; rw [← hX, Below.heap_alloc _ _ _ (by simp)]; exact World.alloc_heap_new w _
  have r2 : RA X (w.heap.size + 1) 0 0 0 0 := by
    unfold RA; rw [← hX, ← hz]; exact World.alloc_heap_new _ _
  have R2 := Lib.hid r2
  have HB := Lib.hid hB
  obtain ⟨f0, f1, f2, f3, g0, g1, g2, g3⟩ := r1.cells
  rw [hX]
  clear hX hz hB r2
  refine wp_region_still_tail 7 (by kernel_rfl) (by kernel_rfl) ?_
  simp only [List.take_succ_cons, List.take_zero, List.drop_succ_cons, List.drop_zero]
  repeat still_step
  still_call (hw0 X.drew)
  repeat still_step
  still_call (hw1 X.drew)
  repeat still_step
  refine wpStill_nil ?_
  change wpList _ _ _ _ _ X.drew
  have R1 : Hid (RA ((X.setCell ⟨w.heap.size, 0, none⟩ (.int .i64 x)).setCell ⟨w.heap.size, 1, none⟩ (.int .i64 y)).drew w.heap.size x y a2 a3) := Lib.hid (by
    unfold RA at r1 ⊢
    have e : (((X.setCell ⟨w.heap.size, 0, none⟩ (.int .i64 x)).setCell ⟨w.heap.size, 1, none⟩ (.int .i64 y)).drew).heap = ((X.setCell ⟨w.heap.size, 0, none⟩ (.int .i64 x)).setCell ⟨w.heap.size, 1, none⟩ (.int .i64 y)).heap := rfl
    rw [e]
    simp [World.setCell, Array.getElem?_modify, r1])
  clear r1
  go_wp2
  have HB2 : Hid (Below w.heap.size w ((X.setCell ⟨w.heap.size, 0, none⟩ (.int .i64 x)).setCell ⟨w.heap.size, 1, none⟩ (.int .i64 y)).drew) := Lib.hid (below_drewN ((HB.out.setCell (p := ⟨w.heap.size, 0, none⟩) (Nat.le_refl _) _).setCell (p := ⟨w.heap.size, 1, none⟩) (Nat.le_refl _) _) 1)
  have R22 : Hid (RA ((X.setCell ⟨w.heap.size, 0, none⟩ (.int .i64 x)).setCell ⟨w.heap.size, 1, none⟩ (.int .i64 y)).drew (w.heap.size + 1) 0 0 0 0) := Lib.hid (by
    show ((X.setCell ⟨w.heap.size, 0, none⟩ (.int .i64 x)).setCell ⟨w.heap.size, 1, none⟩ (.int .i64 y)).heap[_]? = _
    exact (Below.heap_setCell _ _ _ _ (by simp)).trans ((Below.heap_setCell _ _ _ _ (by simp)).trans R2.out))
  obtain ⟨Z, hZ⟩ : ∃ Z, ((X.setCell ⟨w.heap.size, 0, none⟩ (.int .i64 x)).setCell ⟨w.heap.size, 1, none⟩ (.int .i64 y)).drew = Z := ⟨_, rfl⟩
  rw [hZ] at R1 HB2 R22 ⊢
  obtain ⟨Y, hY⟩ : ∃ Y, Z.drew = Y := ⟨_, rfl⟩
  have RY : Hid (RA Y w.heap.size x y a2 a3) := Lib.hid (by rw [← hY]; exact R1.out)
  have RY2 : Hid (RA Y (w.heap.size + 1) 0 0 0 0) := Lib.hid (by rw [← hY]; exact R22.out)
  have HBY : Hid (Below w.heap.size w Y) := Lib.hid (by rw [← hY]; exact below_drewN HB2.out 1)
  have HYR := Lib.hid hY
  clear f0 f1 f2 f3 g0 g1 g2 g3 R1 R22 HB2 R2 HB hZ hY
  refine (wpIn_wide (n := 9)).1 (regionIn_inv (w := Z) (Inv := fun L a' w' => a' = { tmps := #[.agg #[.int .i64 a0, .int .i64 a1, .int .i64 a2, .int .i64 a3], .slice A n c, .pointer (some ⟨w.heap.size, 0, none⟩), undef, .pointer (some ⟨w.heap.size + 1, 0, none⟩), .slice none 0 0, undef, undef, undef, .pointer (some ⟨w.heap.size, 0, none⟩), .int .i64 a0, .int .i64 x, .pointer (some ⟨w.heap.size, 1, none⟩), .int .i64 a1, .int .i64 y, .pointer (some ⟨w.heap.size, 0, none⟩), .pointer (some ⟨w.heap.size, 1, none⟩), bif L 0 then .pointer (some ⟨w.heap.size, 0, none⟩) else undef, bif L 1 then .int .i64 x else undef, bif L 2 then .pointer (some ⟨w.heap.size, 2, none⟩) else undef, bif L 3 then .int .i64 a2 else undef, bif L 4 then .int .i64 (gw : Int) else undef, bif L 5 then .int .i64 X1 else undef, bif L 6 then .pointer (some ⟨w.heap.size, 1, none⟩) else undef, bif L 7 then .int .i64 y else undef, bif L 8 then .pointer (some ⟨w.heap.size, 3, none⟩) else undef, bif L 9 then .int .i64 a3 else undef, bif L 10 then .int .i64 (gh : Int) else undef, bif L 11 then .int .i64 Y1 else undef, bif L 12 then .pointer (some ⟨w.heap.size, 2, none⟩) else undef, bif L 14 then .pointer (some ⟨w.heap.size, 3, none⟩) else undef, undef, undef, undef, undef, undef, undef, undef, undef, undef, undef, undef, undef, undef, undef, undef, undef, undef, undef, undef, undef, undef, undef, undef, undef, undef, undef, undef, undef, undef, undef, undef, undef, undef, undef, undef, undef, undef, undef, undef, undef], defers := [] } ∧ (bif L 15 then (w' = (Y.setCell ⟨w.heap.size, 2, none⟩ (.int .i64 X1)).setCell ⟨w.heap.size, 3, none⟩ (.int .i64 Y1)) else (bif L 13 then (w' = Y.setCell ⟨w.heap.size, 2, none⟩ (.int .i64 X1)) else w' = Y))) (by kernel_rfl) (by kernel_rfl) ?start ?step ?fin)
  case start => exact ⟨rfl, HYR.out⟩
  case step =>
    intro i hi L a' w' hI hs hu
    obtain ⟨rfl, hph⟩ := hI
    have hL := hu.1
    have hi : i < 16 := hi
    obtain rfl | rfl | rfl | rfl | rfl | rfl | rfl | rfl | rfl | rfl | rfl | rfl | rfl | rfl | rfl | rfl := (by omega : i = 0 ∨ i = 1 ∨ i = 2 ∨ i = 3 ∨ i = 4 ∨ i = 5 ∨ i = 6 ∨ i = 7 ∨ i = 8 ∨ i = 9 ∨ i = 10 ∨ i = 11 ∨ i = 12 ∨ i = 13 ∨ i = 14 ∨ i = 15)
    · skip
      have n13 : L 13 = false := not_yet hL fun h => shut_at hs 13 0 (by kernel_rfl) (h)
      have n15 : L 15 = false := not_yet hL fun h => shut_at hs 15 0 (by kernel_rfl) (h)
      refine opIn_run (v := .pointer (some ⟨w.heap.size, 0, none⟩)) (w' := w') rfl rfl (fun c h => by cases h) (fun _ => trivial) ?_ ⟨by simp [Act.put, upd, n13, n15, hL], by simpa [upd] using hph⟩
      simp only [n13, n15, hL, cond_true, cond_false]
      go_simp
    · skip
      have y0 : L 0 = true := up_at hu 0 (by kernel_rfl)
      have n13 : L 13 = false := not_yet hL fun h => shut_at hs 13 1 (by kernel_rfl) (h)
      have n15 : L 15 = false := not_yet hL fun h => shut_at hs 15 1 (by kernel_rfl) (h)
      simp only [y0, n13, n15, hL, cond_true, cond_false] at hph
      have hph := hph.symm
      subst hph
      have k0 : Y.cell? ⟨w.heap.size, 0, none⟩ = some (.int .i64 x) := RY.out.cells.1
      refine opIn_run (v := .int .i64 x) (w' := Y) rfl rfl (fun c h => by cases h) (fun _ => trivial) ?_ ⟨by simp [Act.put, upd, y0, n13, n15, hL], by simp [upd, y0, n13, n15, hL]⟩
      simp only [y0, n13, n15, hL, cond_true, cond_false]
      go_simp
    · skip
      have n13 : L 13 = false := not_yet hL fun h => shut_at hs 13 2 (by kernel_rfl) (h)
      have n15 : L 15 = false := not_yet hL fun h => shut_at hs 15 2 (by kernel_rfl) (h)
      refine opIn_run (v := .pointer (some ⟨w.heap.size, 2, none⟩)) (w' := w') rfl rfl (fun c h => by cases h) (fun _ => trivial) ?_ ⟨by simp [Act.put, upd, n13, n15, hL], by simpa [upd] using hph⟩
      simp only [n13, n15, hL, cond_true, cond_false]
      go_simp
    · skip
      have y2 : L 2 = true := up_at hu 2 (by kernel_rfl)
      have n13 : L 13 = false := not_yet hL fun h => shut_at hs 13 3 (by kernel_rfl) (h)
      have n15 : L 15 = false := not_yet hL fun h => shut_at hs 15 3 (by kernel_rfl) (h)
      simp only [y2, n13, n15, hL, cond_true, cond_false] at hph
      have hph := hph.symm
      subst hph
      have k0 : Y.cell? ⟨w.heap.size, 2, none⟩ = some (.int .i64 a2) := RY.out.cells.2.2.1
      refine opIn_run (v := .int .i64 a2) (w' := Y) rfl rfl (fun c h => by cases h) (fun _ => trivial) ?_ ⟨by simp [Act.put, upd, y2, n13, n15, hL], by simp [upd, y2, n13, n15, hL]⟩
      simp only [y2, n13, n15, hL, cond_true, cond_false]
      go_simp
    · skip
      have y2 : L 2 = true := shut_at hs 3 2 (by kernel_rfl) (up_at hu 3 (by kernel_rfl))
      have y3 : L 3 = true := up_at hu 3 (by kernel_rfl)
      have n13 : L 13 = false := not_yet hL fun h => shut_at hs 13 4 (by kernel_rfl) (h)
      have n15 : L 15 = false := not_yet hL fun h => shut_at hs 15 4 (by kernel_rfl) (h)
      simp only [y2, y3, n13, n15, hL, cond_true, cond_false] at hph
      refine opIn_call (f := 13) (args := #[.int .i64 a2, .int .i64 13]) (w' := w') rfl rfl (fun c h => by cases h) (fun _ => trivial) rfl ?_ ((callsIn_wide.2 (hw2 w')).mono ?_)
      · simp only [y2, y3, n13, n15, hL, cond_true, cond_false]
        go_simp
      · rintro e w2 ⟨rfl, rfl⟩
        exact ⟨_, rfl, by simp [Act.put, upd, y2, y3, n13, n15, hL], by simp only [upd, y2, y3, n13, n15, hL]; exact hph⟩
    · skip
      have y0 : L 0 = true := shut_at hs 1 0 (by kernel_rfl) (up_at hu 1 (by kernel_rfl))
      have y1 : L 1 = true := up_at hu 1 (by kernel_rfl)
      have y2 : L 2 = true := shut_at hs 3 2 (by kernel_rfl) (shut_at hs 4 3 (by kernel_rfl) (up_at hu 4 (by kernel_rfl)))
      have y3 : L 3 = true := shut_at hs 4 3 (by kernel_rfl) (up_at hu 4 (by kernel_rfl))
      have y4 : L 4 = true := up_at hu 4 (by kernel_rfl)
      have n13 : L 13 = false := not_yet hL fun h => shut_at hs 13 5 (by kernel_rfl) (h)
      have n15 : L 15 = false := not_yet hL fun h => shut_at hs 15 5 (by kernel_rfl) (h)
      simp only [y0, y1, y2, y3, y4, n13, n15, hL, cond_true, cond_false] at hph
      have hxx := HXE.out
      refine opIn_run (v := .int .i64 X1) (w' := w') rfl rfl (fun c h => by cases h) (fun _ => trivial) ?_ ⟨by simp [Act.put, upd, y0, y1, y2, y3, y4, n13, n15, hL], by simp only [upd, y0, y1, y2, y3, y4, n13, n15, hL]; exact hph⟩
      simp only [y0, y1, y2, y3, y4, n13, n15, hL, cond_true, cond_false]
      go_simp
    · skip
      have n13 : L 13 = false := not_yet hL fun h => shut_at hs 13 6 (by kernel_rfl) (h)
      have n15 : L 15 = false := not_yet hL fun h => shut_at hs 15 6 (by kernel_rfl) (h)
      refine opIn_run (v := .pointer (some ⟨w.heap.size, 1, none⟩)) (w' := w') rfl rfl (fun c h => by cases h) (fun _ => trivial) ?_ ⟨by simp [Act.put, upd, n13, n15, hL], by simpa [upd] using hph⟩
      simp only [n13, n15, hL, cond_true, cond_false]
      go_simp
    · skip
      have y6 : L 6 = true := up_at hu 6 (by kernel_rfl)
      have n13 : L 13 = false := not_yet hL fun h => shut_at hs 13 7 (by kernel_rfl) (h)
      have n15 : L 15 = false := not_yet hL fun h => shut_at hs 15 7 (by kernel_rfl) (h)
      simp only [y6, n13, n15, hL, cond_true, cond_false] at hph
      have hph := hph.symm
      subst hph
      have k0 : Y.cell? ⟨w.heap.size, 1, none⟩ = some (.int .i64 y) := RY.out.cells.2.1
      refine opIn_run (v := .int .i64 y) (w' := Y) rfl rfl (fun c h => by cases h) (fun _ => trivial) ?_ ⟨by simp [Act.put, upd, y6, n13, n15, hL], by simp [upd, y6, n13, n15, hL]⟩
      simp only [y6, n13, n15, hL, cond_true, cond_false]
      go_simp
    · skip
      have n13 : L 13 = false := not_yet hL fun h => shut_at hs 13 8 (by kernel_rfl) (h)
      have n15 : L 15 = false := not_yet hL fun h => shut_at hs 15 8 (by kernel_rfl) (h)
      refine opIn_run (v := .pointer (some ⟨w.heap.size, 3, none⟩)) (w' := w') rfl rfl (fun c h => by cases h) (fun _ => trivial) ?_ ⟨by simp [Act.put, upd, n13, n15, hL], by simpa [upd] using hph⟩
      simp only [n13, n15, hL, cond_true, cond_false]
      go_simp
    · skip
      have y8 : L 8 = true := up_at hu 8 (by kernel_rfl)
      have n13 : L 13 = false := not_yet hL fun h => shut_at hs 13 9 (by kernel_rfl) (h)
      have n15 : L 15 = false := not_yet hL fun h => shut_at hs 15 9 (by kernel_rfl) (h)
      simp only [y8, n13, n15, hL, cond_true, cond_false] at hph
      have hph := hph.symm
      subst hph
      have k0 : Y.cell? ⟨w.heap.size, 3, none⟩ = some (.int .i64 a3) := RY.out.cells.2.2.2.1
      refine opIn_run (v := .int .i64 a3) (w' := Y) rfl rfl (fun c h => by cases h) (fun _ => trivial) ?_ ⟨by simp [Act.put, upd, y8, n13, n15, hL], by simp [upd, y8, n13, n15, hL]⟩
      simp only [y8, n13, n15, hL, cond_true, cond_false]
      go_simp
    · skip
      have y2 : L 2 = true := shut_at hs 3 2 (by kernel_rfl) (shut_at hs 4 3 (by kernel_rfl) (up_at hu 4 (by kernel_rfl)))
      have y3 : L 3 = true := shut_at hs 4 3 (by kernel_rfl) (up_at hu 4 (by kernel_rfl))
      have y4 : L 4 = true := up_at hu 4 (by kernel_rfl)
      have y8 : L 8 = true := shut_at hs 9 8 (by kernel_rfl) (up_at hu 9 (by kernel_rfl))
      have y9 : L 9 = true := up_at hu 9 (by kernel_rfl)
      have n13 : L 13 = false := not_yet hL fun h => shut_at hs 13 10 (by kernel_rfl) (h)
      have n15 : L 15 = false := not_yet hL fun h => shut_at hs 15 10 (by kernel_rfl) (h)
      simp only [y2, y3, y4, y8, y9, n13, n15, hL, cond_true, cond_false] at hph
      refine opIn_call (f := 13) (args := #[.int .i64 a3, .int .i64 13]) (w' := w') rfl rfl (fun c h => by cases h) (fun _ => trivial) rfl ?_ ((callsIn_wide.2 (hw3 w')).mono ?_)
      · simp only [y2, y3, y4, y8, y9, n13, n15, hL, cond_true, cond_false]
        go_simp
      · rintro e w2 ⟨rfl, rfl⟩
        exact ⟨_, rfl, by simp [Act.put, upd, y2, y3, y4, y8, y9, n13, n15, hL], by simp only [upd, y2, y3, y4, y8, y9, n13, n15, hL]; exact hph⟩
    · skip
      have y2 : L 2 = true := shut_at hs 3 2 (by kernel_rfl) (shut_at hs 4 3 (by kernel_rfl) (shut_at hs 10 4 (by kernel_rfl) (up_at hu 10 (by kernel_rfl))))
      have y3 : L 3 = true := shut_at hs 4 3 (by kernel_rfl) (shut_at hs 10 4 (by kernel_rfl) (up_at hu 10 (by kernel_rfl)))
      have y4 : L 4 = true := shut_at hs 10 4 (by kernel_rfl) (up_at hu 10 (by kernel_rfl))
      have y6 : L 6 = true := shut_at hs 7 6 (by kernel_rfl) (up_at hu 7 (by kernel_rfl))
      have y7 : L 7 = true := up_at hu 7 (by kernel_rfl)
      have y8 : L 8 = true := shut_at hs 9 8 (by kernel_rfl) (shut_at hs 10 9 (by kernel_rfl) (up_at hu 10 (by kernel_rfl)))
      have y9 : L 9 = true := shut_at hs 10 9 (by kernel_rfl) (up_at hu 10 (by kernel_rfl))
      have y10 : L 10 = true := up_at hu 10 (by kernel_rfl)
      have n15 : L 15 = false := not_yet hL fun h => shut_at hs 15 11 (by kernel_rfl) (h)
      simp only [y2, y3, y4, y6, y7, y8, y9, y10, n15, hL, cond_true, cond_false] at hph
      have hyy := HYE.out
      refine opIn_run (v := .int .i64 Y1) (w' := w') rfl rfl (fun c h => by cases h) (fun _ => trivial) ?_ ⟨by simp [Act.put, upd, y2, y3, y4, y6, y7, y8, y9, y10, n15, hL], by simp only [upd, y2, y3, y4, y6, y7, y8, y9, y10, n15, hL]; exact hph⟩
      simp only [y2, y3, y4, y6, y7, y8, y9, y10, n15, hL, cond_true, cond_false]
      go_simp
    · skip
      have y0 : L 0 = true := up_at hu 0 (by kernel_rfl)
      have y1 : L 1 = true := up_at hu 1 (by kernel_rfl)
      have y2 : L 2 = true := up_at hu 2 (by kernel_rfl)
      have y3 : L 3 = true := up_at hu 3 (by kernel_rfl)
      have y4 : L 4 = true := up_at hu 4 (by kernel_rfl)
      have y5 : L 5 = true := up_at hu 5 (by kernel_rfl)
      have y6 : L 6 = true := up_at hu 6 (by kernel_rfl)
      have y7 : L 7 = true := up_at hu 7 (by kernel_rfl)
      have y8 : L 8 = true := up_at hu 8 (by kernel_rfl)
      have y9 : L 9 = true := up_at hu 9 (by kernel_rfl)
      have n13 : L 13 = false := not_yet hL fun h => shut_at hs 13 12 (by kernel_rfl) (h)
      have n15 : L 15 = false := not_yet hL fun h => shut_at hs 15 12 (by kernel_rfl) (h)
      refine opIn_run (v := .pointer (some ⟨w.heap.size, 2, none⟩)) (w' := w') rfl rfl (fun c h => by cases h) (fun _ => trivial) ?_ ⟨by simp [Act.put, upd, y0, y1, y2, y3, y4, y5, y6, y7, y8, y9, n13, n15, hL], by simpa [upd] using hph⟩
      simp only [y0, y1, y2, y3, y4, y5, y6, y7, y8, y9, n13, n15, hL, cond_true, cond_false]
      go_simp
    · skip
      have y0 : L 0 = true := up_at hu 0 (by kernel_rfl)
      have y1 : L 1 = true := up_at hu 1 (by kernel_rfl)
      have y2 : L 2 = true := up_at hu 2 (by kernel_rfl)
      have y3 : L 3 = true := up_at hu 3 (by kernel_rfl)
      have y4 : L 4 = true := up_at hu 4 (by kernel_rfl)
      have y5 : L 5 = true := up_at hu 5 (by kernel_rfl)
      have y6 : L 6 = true := up_at hu 6 (by kernel_rfl)
      have y7 : L 7 = true := up_at hu 7 (by kernel_rfl)
      have y8 : L 8 = true := up_at hu 8 (by kernel_rfl)
      have y9 : L 9 = true := up_at hu 9 (by kernel_rfl)
      have y10 : L 10 = true := up_at hu 10 (by kernel_rfl)
      have y12 : L 12 = true := up_at hu 12 (by kernel_rfl)
      have n15 : L 15 = false := not_yet hL fun h => shut_at hs 15 13 (by kernel_rfl) (h)
      simp only [y0, y1, y2, y3, y4, y5, y6, y7, y8, y9, y10, y12, n15, hL, cond_true, cond_false] at hph
      have hph := hph.symm
      subst hph
      obtain ⟨k0, k1, k2, k3, k4, k5, k6, k7⟩ := RY.out.cells
      refine opIn_skip (w' := Y.setCell ⟨w.heap.size, 2, none⟩ (.int .i64 X1)) rfl rfl (fun c h => by cases h) (fun _ => trivial) ?_ ⟨by simp [Act.put, upd, y0, y1, y2, y3, y4, y5, y6, y7, y8, y9, y10, y12, n15, hL], by simp [upd, y0, y1, y2, y3, y4, y5, y6, y7, y8, y9, y10, y12, n15, hL]⟩
      simp only [y0, y1, y2, y3, y4, y5, y6, y7, y8, y9, y10, y12, n15, hL, cond_true, cond_false]
      go_simp
    · skip
      have y0 : L 0 = true := up_at hu 0 (by kernel_rfl)
      have y1 : L 1 = true := up_at hu 1 (by kernel_rfl)
      have y2 : L 2 = true := up_at hu 2 (by kernel_rfl)
      have y3 : L 3 = true := up_at hu 3 (by kernel_rfl)
      have y4 : L 4 = true := up_at hu 4 (by kernel_rfl)
      have y5 : L 5 = true := up_at hu 5 (by kernel_rfl)
      have y6 : L 6 = true := up_at hu 6 (by kernel_rfl)
      have y7 : L 7 = true := up_at hu 7 (by kernel_rfl)
      have y8 : L 8 = true := up_at hu 8 (by kernel_rfl)
      have y9 : L 9 = true := up_at hu 9 (by kernel_rfl)
      have y10 : L 10 = true := up_at hu 10 (by kernel_rfl)
      have y11 : L 11 = true := up_at hu 11 (by kernel_rfl)
      have y12 : L 12 = true := up_at hu 12 (by kernel_rfl)
      have y13 : L 13 = true := up_at hu 13 (by kernel_rfl)
      have n15 : L 15 = false := not_yet hL fun h => shut_at hs 15 14 (by kernel_rfl) (h)
      refine opIn_run (v := .pointer (some ⟨w.heap.size, 3, none⟩)) (w' := w') rfl rfl (fun c h => by cases h) (fun _ => trivial) ?_ ⟨by simp [Act.put, upd, y0, y1, y2, y3, y4, y5, y6, y7, y8, y9, y10, y11, y12, y13, n15, hL], by simpa [upd] using hph⟩
      simp only [y0, y1, y2, y3, y4, y5, y6, y7, y8, y9, y10, y11, y12, y13, n15, hL, cond_true, cond_false]
      go_simp
    · skip
      have y0 : L 0 = true := up_at hu 0 (by kernel_rfl)
      have y1 : L 1 = true := up_at hu 1 (by kernel_rfl)
      have y2 : L 2 = true := up_at hu 2 (by kernel_rfl)
      have y3 : L 3 = true := up_at hu 3 (by kernel_rfl)
      have y4 : L 4 = true := up_at hu 4 (by kernel_rfl)
      have y5 : L 5 = true := up_at hu 5 (by kernel_rfl)
      have y6 : L 6 = true := up_at hu 6 (by kernel_rfl)
      have y7 : L 7 = true := up_at hu 7 (by kernel_rfl)
      have y8 : L 8 = true := up_at hu 8 (by kernel_rfl)
      have y9 : L 9 = true := up_at hu 9 (by kernel_rfl)
      have y10 : L 10 = true := up_at hu 10 (by kernel_rfl)
      have y11 : L 11 = true := up_at hu 11 (by kernel_rfl)
      have y12 : L 12 = true := up_at hu 12 (by kernel_rfl)
      have y13 : L 13 = true := up_at hu 13 (by kernel_rfl)
      have y14 : L 14 = true := up_at hu 14 (by kernel_rfl)
      simp only [y0, y1, y2, y3, y4, y5, y6, y7, y8, y9, y10, y11, y12, y13, y14, hL, cond_true, cond_false] at hph
      have hph := hph.symm
      subst hph
      obtain ⟨k0, k1, k2, k3, k4, k5, k6, k7⟩ := RY.out.cells
      refine opIn_skip (w' := (Y.setCell ⟨w.heap.size, 2, none⟩ (.int .i64 X1)).setCell ⟨w.heap.size, 3, none⟩ (.int .i64 Y1)) rfl rfl (fun c h => by cases h) (fun _ => trivial) ?_ ⟨by simp [Act.put, upd, y0, y1, y2, y3, y4, y5, y6, y7, y8, y9, y10, y11, y12, y13, y14, hL], by simp [upd, y0, y1, y2, y3, y4, y5, y6, y7, y8, y9, y10, y11, y12, y13, y14, hL]⟩
      simp only [y0, y1, y2, y3, y4, y5, y6, y7, y8, y9, y10, y11, y12, y13, y14, hL, cond_true, cond_false]
      go_simp
  case fin =>
    intro L a' w' hall hI
    obtain ⟨rfl, hph⟩ := hI
    have l0 := hall 0 (by decide)
    have l1 := hall 1 (by decide)
    have l2 := hall 2 (by decide)
    have l3 := hall 3 (by decide)
    have l4 := hall 4 (by decide)
    have l5 := hall 5 (by decide)
    have l6 := hall 6 (by decide)
    have l7 := hall 7 (by decide)
    have l8 := hall 8 (by decide)
    have l9 := hall 9 (by decide)
    have l10 := hall 10 (by decide)
    have l11 := hall 11 (by decide)
    have l12 := hall 12 (by decide)
    have l13 := hall 13 (by decide)
    have l14 := hall 14 (by decide)
    have l15 := hall 15 (by decide)
    simp only [l0, l1, l2, l3, l4, l5, l6, l7, l8, l9, l10, l11, l12, l13, l14, l15, cond_true] at hph ⊢
    clear l0 l1 l2 l3 l4 l5 l6 l7 l8 l9 l10 l11 l12 l13 l14 l15 hall
    have hph := hph.symm
    subst hph
    have R3 : Hid (RA (((Y.setCell ⟨w.heap.size, 2, none⟩ (.int .i64 X1)).setCell ⟨w.heap.size, 3, none⟩ (.int .i64 Y1))) w.heap.size x y X1 Y1) := Lib.hid (by
      have r1 := RY.out
      unfold RA at r1 ⊢
      simp [World.setCell, Array.getElem?_modify, r1])
    have R4 : Hid (RA (((Y.setCell ⟨w.heap.size, 2, none⟩ (.int .i64 X1)).setCell ⟨w.heap.size, 3, none⟩ (.int .i64 Y1))) (w.heap.size + 1) 0 0 0 0) := Lib.hid ((Below.heap_setCell _ _ _ _ (by simp)).trans ((Below.heap_setCell _ _ _ _ (by simp)).trans RY2.out))
    have HB4 : Hid (Below w.heap.size w (((Y.setCell ⟨w.heap.size, 2, none⟩ (.int .i64 X1)).setCell ⟨w.heap.size, 3, none⟩ (.int .i64 Y1)))) := Lib.hid ((HBY.out.setCell (p := ⟨w.heap.size, 2, none⟩) (Nat.le_refl _) _).setCell (p := ⟨w.heap.size, 3, none⟩) (Nat.le_refl _) _)
    generalize (((Y.setCell ⟨w.heap.size, 2, none⟩ (.int .i64 X1)).setCell ⟨w.heap.size, 3, none⟩ (.int .i64 Y1))) = U at *
    clear RY RY2 HBY hw0 hw1 hw2 hw3 s1 s2
    obtain ⟨k0, k1, k2, k3, _⟩ := R3.out.cells
    obtain ⟨N, hN⟩ : ∃ N, gw * gh = N := ⟨_, rfl⟩
    have s3 := HS3.out
    have s4 := HS4.out
    have hmk := fun u => hmkn u N (by omega)
    have q0 : wrap64 ((gw : Int) * (gh : Int)) = (N : Int) := by rw [← hN]; exact wr_mul _ _ (by omega) (by omega)
    have HN := Lib.hid hN
    have hN144 : N ≤ 144 := by omega
    clear hN hmm
    go_wp2_with fail
    have HBU : Hid (Below w.heap.size w (U.alloc (Obj.cells (madeCells #[Value.int IntKind.i64 0] N) 3))) := Lib.hid (HB4.out.alloc HB4.out.size _)
    have ho : (U.alloc (Obj.cells (madeCells #[Value.int IntKind.i64 0] N) 3)).ownsRow U.heap.size 3 1 (.slice (some ⟨U.heap.size, 0, none⟩) N N) N ((ranged (fun _ => 0) N).map (Value.int .i64)) := made_ranged U N (by omega)
    have HO := Lib.hid ho
    refine (row9 (H.out.keep HBU.out (Nat.le_refl _))).mono ?_
    rintro e V ⟨A2, c2, rfl, hrow2, bV⟩
    have hbd2 := fun j => rowF_getD l j
    generalize hn2 : min 60 n = n2 at *
    generalize rowF l = l2 at *
    have hn60 : n2 ≤ 60 := by omega
    have HBD := Lib.hid hbd2
    have HRB : Hid (∀ b o, A2 = some ⟨b, o, none⟩ → U.heap.size < b) := Lib.hid (fun b o e => by
      rcases hrow2.2 with ⟨hv, _⟩ | ⟨g', cap, cur, hv, hg', _⟩
      · injection hv with hv; rw [e] at hv; cases hv
      · injection hv with hv; rw [e] at hv; injection hv with hv; injection hv with hv
        simp at hg'
        omega)
    have HL2 := Lib.hid (RowO.row hrow2)
    have hUz : U.heap.size < (U.alloc (Obj.cells (madeCells #[Value.int IntKind.i64 0] N) 3)).heap.size := by simp
    have HOV : Hid (V.ownsRow U.heap.size 3 1 (.slice (some ⟨U.heap.size, 0, none⟩) N N) N ((ranged (fun _ => 0) N).map (Value.int .i64))) := Lib.hid (ho.kept (grown_of_below bV none) (Or.inr (by simp [Value.ownBlock])))
    have hw3 := R3.out.lt
    have hw4 := R4.out.lt
    have RV3 : Hid (RA V w.heap.size x y X1 Y1) := Lib.hid ((bV.block _ (by omega)).trans ((Below.heap_alloc U _ _ hw3).trans R3.out))
    have RV4 : Hid (RA V (w.heap.size + 1) 0 0 0 0) := Lib.hid ((bV.block _ (by omega)).trans ((Below.heap_alloc U _ _ hw4).trans R4.out))
    have HBV : Hid (Below w.heap.size w V) := Lib.hid (HBU.out.trans (bV.mono HBU.out.size))
    obtain ⟨u, hu⟩ : ∃ u, U.heap.size = u := ⟨_, rfl⟩
    rw [hu] at HOV HRB hw3 hw4 ⊢
    have huV : u < V.heap.size := by rw [← hu]; exact Nat.lt_of_lt_of_le hUz bV.size
    clear hn2 hbd2 hrow2 ho HO bV HBU R3 R4 HB4 k0 k1 k2 k3 hmk q0 s3 s4 hu hUz H
    go_wp2
    go_loopw [8] (fun iv wr => ∃ (i : Nat) (r : Nat → Int), i ≤ N ∧ iv = .int .i64 (i : Int) ∧ Hid (wr.ownsRow u 3 1 (.slice (some ⟨u, 0, none⟩) N N) N ((ranged r N).map (Value.int .i64)) ∧ (∀ j, -600000 ≤ r j ∧ r j ≤ 600000) ∧ V.grownBy wr (some u))) (fun iv _ => N - (intOf iv).toNat)
    case atStart => exact ⟨0, fun _ => 0, by omega, rfl, Lib.hid ⟨HOV.out, fun _ => ⟨by show (-600000 : Int) ≤ 0; decide, by show (0 : Int) ≤ 600000; decide⟩, World.grownBy.refl _ _⟩⟩
    case round =>
      obtain ⟨i, r, hi, rfl, S⟩ := hrel
      clear HOV
      by_cases hgo : i < N ∧ 0 < n2
      · obtain ⟨ci, cn⟩ := hgo
        have ci' : (i : Int) < (N : Int) := by omega
        have cn' : (0 : Int) < (n2 : Int) := by omega
        have cn2 : ¬ (n2 : Int) = 0 := by omega
        obtain ⟨j, hj⟩ : ∃ j, i % n2 = j := ⟨_, rfl⟩
        have hjn : j < n2 := by rw [← hj]; exact Nat.mod_lt _ cn
        have e1 : ((i : Int)).tmod (n2 : Int) = (j : Int) := by rw [Int.tmod_eq_emod_of_nonneg (by omega), ← hj]; simp
        obtain ⟨k7, hk7⟩ : ∃ k7, i % 7 = k7 := ⟨_, rfl⟩
        have hk72 : k7 ≤ 6 := by omega
        have e2 : ((i : Int)).tmod 7 = (k7 : Int) := by rw [Int.tmod_eq_emod_of_nonneg (by omega), ← hk7]; simp
        have hrw2 : RowI wr A2 n2 c2 l2 := row_other HL2.out S.out.2.2 (fun b o e => by
          have := HRB.out b o e; omega)
        obtain ⟨b, o, rfl, hbl, f1⟩ := hrw2.cell hjn
        have hx0 := HBD.out j
        generalize l2.getD j 0 = x0 at *
        obtain ⟨v0, f2⟩ : ∃ v0, wr.cell? ⟨u, i, none⟩ = some (.int .i64 v0) := ⟨_, own_cell S.out.1 ci⟩
        have f3 := S.out.1.frozenAt i
        have hst := own_set (s := fun m => if m = i then x0 + (k7 : Int) else r m) S.out.1 (x0 + (k7 : Int)) ci (fun m _ => rfl)
        have S2 : Hid ((wr.setCell ⟨u, i, none⟩ (.int .i64 (x0 + (k7 : Int)))).ownsRow u 3 1 (.slice (some ⟨u, 0, none⟩) N N) N ((ranged (fun m => if m = i then x0 + (k7 : Int) else r m) N).map (Value.int .i64)) ∧ (∀ j, -600000 ≤ (if j = i then x0 + (k7 : Int) else r j) ∧ (if j = i then x0 + (k7 : Int) else r j) ≤ 600000) ∧ V.grownBy (wr.setCell ⟨u, i, none⟩ (.int .i64 (x0 + (k7 : Int)))) (some u)) := Lib.hid ⟨hst.1, fun m => by
          by_cases e : m = i
          · rw [if_pos e]; omega
          · rw [if_neg e]; exact S.out.2.1 m, S.out.2.2.trans hst.2⟩
        have hs0 : -600000 ≤ x0 + (k7 : Int) ∧ x0 + (k7 : Int) ≤ 600000 := by omega
        clear hst S hj hk7 hrw2
        go_wp2
        go_roundw
        case rel => exact ⟨i + 1, _, by omega, by go_num, S2⟩
        case measure => simp [intOf]; omega
      · have hA : Hid (RA wr w.heap.size x y X1 Y1) := Lib.hid ((S.out.2.2.block _ (by have := RV3.out.lt; omega) (fun e => by injection e with e; omega)).trans RV3.out)
        have hA2 : RA wr (w.heap.size + 1) 0 0 0 0 := (S.out.2.2.block _ (by have := RV4.out.lt; omega) (fun e => by injection e with e; omega)).trans RV4.out
        have HF : Hid (Below w.heap.size w (setRect wr (w.heap.size + 1) x y X1 Y1) ∧ RA (setRect wr (w.heap.size + 1) x y X1 Y1) (w.heap.size + 1) x y X1 Y1 ∧ RowI (setRect wr (w.heap.size + 1) x y X1 Y1) (some ⟨u, 0, none⟩) N N (ranged r N)) := Lib.hid ⟨by
            have b1 := HBV.out.grown S.out.2.2 HBV.out.size (fun k e => by injection e with e; omega)
            exact (((b1.setCell (p := ⟨w.heap.size + 1, 0, none⟩) (by show _ ≤ w.heap.size + 1; omega) _).setCell (p := ⟨w.heap.size + 1, 1, none⟩) (by show _ ≤ w.heap.size + 1; omega) _).setCell (p := ⟨w.heap.size + 1, 2, none⟩) (by show _ ≤ w.heap.size + 1; omega) _).setCell (p := ⟨w.heap.size + 1, 3, none⟩) (by show _ ≤ w.heap.size + 1; omega) _,
          RA.setRect hA2, by
            have h1 : RowO u wr (some ⟨u, 0, none⟩) N N (ranged r N) := S.out.1
            refine RowO.row (lo := u) (ownsRow_keep h1 (setRect_only wr _ x y X1 Y1).size fun b e => (setRect_only wr _ x y X1 Y1).block b ?_)
            simp [Value.ownBlock] at e
            omega⟩
        have HR := Lib.hid S.out.2.1
        obtain ⟨k0, k1, k2, k3, _⟩ := hA.out.cells
        obtain ⟨z0, z1, z2, z3, z4, z5, z6, z7⟩ := hA2.cells
        clear S hA hA2
        unfold setRect at HF
        have hcase : ¬ (i : Int) < (N : Int) ∨ ((i : Int) < (N : Int) ∧ ¬ (0 : Int) < (n2 : Int)) := by omega
        rcases hcase with c1 | ⟨c1, c2'⟩
        all_goals
          go_wp2
          obtain ⟨hB, hR, hrow⟩ := HF.out
          obtain ⟨y0, y1, y2, y3, y4, y5, y6, y7⟩ := hR.cells
          refine bodyPost_ret (v := .tuple #[.agg #[.int .i64 x, .int .i64 y, .int .i64 X1, .int .i64 Y1], .slice (some ⟨u, 0, none⟩) N N]) (by simp [results, Try.results12, go_sem, y0, y1, y2, y3, y4, y5, y6, y7]) rfl ⟨fun x y => r (y * gw + x), some ⟨u, 0, none⟩, N, ?_, ?_, ?_, ?_, hB⟩
          · rw [HN.out]
          · rw [HN.out, flat_of, HN.out]; exact hrow
          · exact fun x y _ _ => HR.out _
          · intro b o e; injection e with e; injection e with e _; omega
end Go.Proofs.Ytgadebfelomhpaa
