/- The statement SketchKinds of chapter 21, walked. -/
import Derived.Test.YtjmkkjgchgcleaaSkKnown
set_option linter.unusedVariables false
namespace Go.Proofs.Ytjmkkjgchgcleaa
open Go.RowKit

theorem ceil_one (x : Int) : ceilF x 1 = x := by
  unfold ceilF
  rw [Int.emod_one, if_neg (by omega), Int.ediv_one]
theorem step_zero (kind : Int) : stepF kind 0 = 1 := by unfold stepF; split <;> simp
theorem side_zero (kind : Int) (X : Nat) : sideF kind 0 (X : Int) 0 = X := by
  unfold sideF; rw [step_zero, ceil_one, ceil_one]; simp
theorem gridP_get (g : Int → Int → Int) {wd i j n : Nat} (hi : i < wd) (hn : j * wd + i < n) : (gridP g wd n)[j * wd + i]? = some (g (i : Int) (j : Int)) := by
  unfold gridP
  rw [List.getElem?_map, List.getElem?_range hn]
  simp only [Option.map_some]
  rw [show (j * wd + i) % wd = i by rw [Nat.mul_comm, Nat.mul_add_mod, Nat.mod_eq_of_lt hi], show (j * wd + i) / wd = j by rw [Nat.mul_comm, Nat.mul_add_div (by omega), Nat.div_eq_of_lt hi, Nat.add_zero]]
theorem data_zero (X Y : Nat) (d kind : Int) : dataF X Y 0 0 d kind 0 = gridP (smpF kind ((2 : Int) ^ d.toNat) 0) X (Y * X) := by
  unfold dataF; rw [side_zero, side_zero]; rfl
theorem smp_kind2 {m i j : Int} (hm : 2 ≤ m) (hi : 0 ≤ i) (hj : 0 ≤ j) : smpF 2 m 0 i j = (i + j) % 2 * (m - 1) := by
  have e : rawF 2 m 0 i j = (m - 1) * ((i + j + 0) % 2) := rfl
  unfold smpF
  rw [e, Int.add_zero]
  have h2 : (i + j) % 2 = 0 ∨ (i + j) % 2 = 1 := by omega
  rcases h2 with h | h <;> rw [h]
  · simp
  · rw [Int.mul_one, Int.one_mul]; exact Int.emod_eq_of_lt (by omega) (by omega)

theorem wr_a {q m : Int} (h : q = m) (h0 : 2 ≤ m) (h1 : m ≤ 65536) : wrap64 q = m := by subst h; exact IntWalk.wrap64_in _ (by omega)
theorem wr_b {q tp : Int} (h : q = tp + 1) (h0 : 2 ≤ tp + 1) (h1 : tp + 1 ≤ 65536) : wrap64 (wrap64 q - 1) = tp := by
  rw [wr_a h h0 h1, show tp + 1 - 1 = tp by omega]; exact IntWalk.wrap64_in _ (by omega)

set_option maxRecDepth 100000 in
set_option maxHeartbeats 16000000 in
theorem walk_sketchKinds (a0 : Int) (a1 : Int) (a2 : Int) (a3 : Int) (w : World) (w0 : (Lit.int .i64 a0).wf = true) (w1 : (Lit.int .i64 a1).wf = true) (w2 : (Lit.int .i64 a2).wf = true) (w3 : (Lit.int .i64 a3).wf = true) :
    Calls Try.prog 6 #[.int .i64 a0, .int .i64 a1, .int .i64 a2, .int .i64 a3] w fun e w' => e = .returned (.bool true) ∧ Below w.heap.size w w' := by
  clear w0 w1 w2 w3
  go_enter Try.func6, Try.ntmps6
  go_wp2_with fail
  refine (known21 _).mono ?_
  rintro e w1 ⟨rfl, h1⟩
  go_wp2_with fail
  refine (some21 _ _ _ (by omega) (by omega)).mono ?_
  rintro e w' ⟨x', rfl, x0, x1, rfl⟩
  go_wp2_with fail
  refine (some21 _ _ _ (by omega) (by omega)).mono ?_
  rintro e w' ⟨y', rfl, y0, y1, rfl⟩
  go_wp2_with fail
  refine (some21 _ _ _ (by omega) (by omega)).mono ?_
  rintro e w' ⟨d', rfl, d0, d1, rfl⟩
  go_wp2_with fail
  refine (some21 _ _ _ (by omega) (by omega)).mono ?_
  rintro e w' ⟨kind, rfl, k0, k1, rfl⟩
  obtain ⟨X, hX⟩ : ∃ X : Nat, 1 + x' = (X : Int) := ⟨(1 + x').toNat, by omega⟩
  obtain ⟨Y, hY⟩ : ∃ Y : Nat, 1 + y' = (Y : Int) := ⟨(1 + y').toNat, by omega⟩
  obtain ⟨d, hd⟩ : ∃ d, 1 + d' = d := ⟨_, rfl⟩
  go_wp2_with fail
  refine (draw_any X Y 0 0 1 d kind _ (by omega) (by omega) (by omega) (by omega) (by omega)).mono ?_
  rintro e w2 ⟨Cv, CS, rfl, hP⟩
  have hP : Pic w1.heap.size w1 w2 Cv 1 CS X Y 0 0 d kind := hP
  obtain ⟨AC, cC, rfl, hkc, hm, hR⟩ := pic_rd hP
  obtain ⟨Wi, hWi⟩ : ∃ Wi, w2.alloc (Obj.cells #[.int .i64 (X : Int), .int .i64 (Y : Int), .int .i64 0, .int .i64 0, .slice AC 1 cC] 25) = Wi := ⟨_, rfl⟩
  have hBW : Below w2.heap.size w2 Wi := by rw [← hWi]; exact (Below.refl _ w2).alloc (Nat.le_refl _) _
  have hRi := hR.keep hBW
  have hB := h1.trans ((hP.bel.trans (hBW.mono hP.bel.size)).mono h1.size)
  have hbm : Wi.heap[w2.heap.size]? = some (.cells #[.int .i64 (X : Int), .int .i64 (Y : Int), .int .i64 0, .int .i64 0, .slice AC 1 cC] 25 (0, 0)) := by rw [← hWi]; exact World.alloc_heap_new w2 _
  have g4 : Wi.cell? ⟨w2.heap.size, 4, none⟩ = some (.slice AC 1 cC) := by simp [World.cell?, hbm]
  obtain ⟨b, A, cap, rfl, hbl, c0, c1, c2, c3, c4, hcap, hmx, hLst⟩ := hRi 0 (dataF X Y 0 0 d kind 0) rfl
  rw [data_zero] at c4 hcap hLst
  rw [gridP_len] at c4 hcap
  have c4 : Wi.cell? ⟨b, 4, none⟩ = some (.slice A (Y * X) cap) := c4
  have hpd := pow_bd d (by omega) (by omega)
  have hsh : IntKind.i64.wrap ((2 : Int) ^ min (IntKind.u64.wrap d).toNat 64) = 2 ^ d.toNat := by
    rw [IntWalk.u64_in _ (by omega), show min d.toNat 64 = d.toNat from by omega]
    exact IntWalk.i64_in _ (by omega)
  have hsh2 : IntKind.i64.wrap ((2 : Int) ^ min d.toNat 64) = 2 ^ d.toNat := by
    rw [show min d.toNat 64 = d.toNat from by omega]
    exact IntWalk.i64_in _ (by omega)
  have hud : IntKind.u64.wrap d = d := IntWalk.u64_in _ (by omega)
  have hXY : (X : Int) * (Y : Int) = ((Y * X : Nat) : Int) := by push_cast; rw [Int.mul_comm]
  have hYX : Y * X ≤ 400 := by
    have := Nat.mul_le_mul (show Y ≤ 20 by omega) (show X ≤ 20 by omega); omega
  unfold maxLen at hmx
  have hmc := hm
  unfold maxLen at hmc
  have HL := Lib.hid hLst
  clear hLst hRi hR hP hm hBW hbm c0 c1 c2 c3 h1
  obtain ⟨tp, htp⟩ : ∃ tp, (2 : Int) ^ d.toNat = tp + 1 := ⟨(2 : Int) ^ d.toNat - 1, by omega⟩
  rw [htp] at hpd HL
  have E5 := Lib.hid (And.intro (wr_a htp hpd.1 hpd.2) (wr_b htp hpd.1 hpd.2))
  clear hsh hsh2 htp
  go_wp2_with fail
  rw [E5.out.2, E5.out.1]
  clear hWi hud hXY
  go_loopw [12] (fun jv wr => ∃ j : Nat, j ≤ Y ∧ jv = .int .i64 j ∧ Wi = wr) (fun jv _ => Y - (intOf jv).toNat)
  case atStart => exact ⟨0, by omega, rfl, rfl⟩
  case round =>
    obtain ⟨j, hj, rfl, rfl⟩ := hrel
    by_cases cj : j < Y
    · have cj' : (j : Int) < (Y : Int) := by omega
      go_wp2_with fail
      go_loopw [13, 14] (fun iv nv wr => ∃ i : Nat, i ≤ X ∧ iv = .int .i64 i ∧ Wi = wr) (fun iv _ _ => X - (intOf iv).toNat)
      case atStart => exact ⟨0, by omega, rfl, rfl⟩
      case round =>
        obtain ⟨i, hi, rfl, rfl⟩ := hrel
        by_cases ci : i < X
        · have ci' : (i : Int) < (X : Int) := by omega
          have hqn : j * X + i < Y * X := by
            have := Nat.mul_le_mul_right X (show j + 1 ≤ Y by omega)
            rw [Nat.succ_mul] at this
            omega
          have hget := gridP_get (smpF kind (tp + 1) 0) (j := j) ci hqn
          obtain ⟨ba, oa, rfl, hba, m0⟩ := HL.out (j * X + i) (.int .i64 (smpF kind (tp + 1) 0 i j)) (by rw [List.getElem?_map, hget]; rfl)
          have hvb := smp_bd (kind := kind) (c := 0) (i := (i : Int)) (j := (j : Int)) hpd
          obtain ⟨q, hq⟩ : ∃ q, j * X + i = q := ⟨_, rfl⟩
          have hqi : (j : Int) * (X : Int) + (i : Int) = (q : Int) := by rw [← hq]; push_cast; rfl
          have hq0 : (0 : Int) ≤ (j : Int) * (X : Int) ∧ (j : Int) * (X : Int) ≤ 1000 := by
            have e : (j : Int) * (X : Int) = ((j * X : Nat) : Int) := by push_cast; rfl
            omega
          rw [hq] at m0 hqn
          have hqYX : (q : Int) < ((Y * X : Nat) : Int) := by omega
          clear hget hq
          have v0 : ¬ smpF kind (tp + 1) 0 i j < 0 := by omega
          have v1 : ¬ tp < smpF kind (tp + 1) 0 i j := by omega
          by_cases c0 : kind = 0
          · subst c0
            have v2 : (smpF 0 (tp + 1) 0 i j != 7 % (tp + 1)) = false := by simp [smpF, rawF]
            generalize smpF 0 (tp + 1) 0 i j = v at *
            go_wp2
            exact ⟨⟨i + 1, by omega, by go_num, trivial⟩, by simp [intOf]; omega⟩
          · have c0' : (kind == 0) = false := by simpa using c0
            by_cases c2 : kind = 2
            · subst c2
              have v2 : (smpF 2 (tp + 1) 0 i j != ((i : Int) + (j : Int)) % 2 * tp) = false := by
                rw [smp_kind2 hpd.1 (by omega) (by omega), show tp + 1 - 1 = tp by omega]; simp
              have h2 : 0 ≤ ((i : Int) + (j : Int)) % 2 * tp ∧ ((i : Int) + (j : Int)) % 2 * tp ≤ 65536 := by
                have h : ((i : Int) + (j : Int)) % 2 = 0 ∨ ((i : Int) + (j : Int)) % 2 = 1 := by omega
                rcases h with h | h <;> rw [h] <;> omega
              generalize smpF 2 (tp + 1) 0 i j = v at *
              go_wp2
              exact ⟨⟨i + 1, by omega, by go_num, trivial⟩, by simp [intOf]; omega⟩
            · have c2' : (kind == 2) = false := by simpa using c2
              by_cases c1 : kind = 1
              · subst c1
                have v2 : (smpF 1 (tp + 1) 0 i j != ((i : Int) + 2 * (j : Int)) % (tp + 1)) = false := by simp [smpF, rawF]
                generalize smpF 1 (tp + 1) 0 i j = v at *
                go_wp2
                exact ⟨⟨i + 1, by omega, by go_num, trivial⟩, by simp [intOf]; omega⟩
              · have c1' : (kind == 1) = false := by simpa using c1
                generalize smpF kind (tp + 1) 0 i j = v at *
                go_wp2
                exact ⟨⟨i + 1, by omega, by go_num, trivial⟩, by simp [intOf]; omega⟩
        · have ci' : ¬ (i : Int) < (X : Int) := by omega
          go_wp2
          go_roundw
          case rel => exact ⟨j + 1, by omega, by go_num, trivial⟩
          case measure => simp [intOf]; omega
    · have cj' : ¬ (j : Int) < (Y : Int) := by omega
      go_wp2
      go_ret
      exact ⟨rfl, hB⟩
end Go.Proofs.Ytjmkkjgchgcleaa
