/- cut, rows and columns of waveletref10, by their contracts. -/
import Derived.Test.YtgadebfelomhpaaDwRo
set_option linter.unusedVariables false
set_option linter.unusedSimpArgs false
namespace Go.Proofs.Ytgadebfelomhpaa
open Go.RowKit

theorem own_ne {lo n c g : Nat} {w : World} {A : Option Addr} {xs : List Value} (h : w.ownsRow lo 3 1 (.slice A n c) n xs) (hg : g < lo) : (Value.slice A n c).ownBlock ≠ some g := fun e => by
  have := own_lt h e
  omega
attribute [local go_sem ↓] appSem_eq slcSem_eq in
set_option maxHeartbeats 4000000 in
set_option maxRecDepth 100000 in
theorem cut_any {A : Option Addr} {c : Nat} (W H N x0 y0 x1 y1 wd ht M : Nat) (P : Nat → Nat → Int) (w : World) (hx : x0 + wd = x1 ∧ x1 ≤ W) (hy : y0 + ht = y1 ∧ y1 ≤ H) (hWH : W ≤ 300 ∧ H ≤ 300) (hN : W * H = N) (hM : wd * ht = M) (h : RowI w A N c (flat W H P)) :
    Calls Try.prog 29 #[.int .i64 (W : Int), .slice A N c, .int .i64 (x0 : Int), .int .i64 (y0 : Int), .int .i64 (x1 : Int), .int .i64 (y1 : Int)] w fun e w' => ∃ A' c', e = .returned (.slice A' M c') ∧ RowO w.heap.size w' A' M c' (flat wd ht (subF x0 y0 P)) ∧ Below w.heap.size w w' := by
  have H1 := Lib.hid h
  have HN := Lib.hid hN
  have HM := Lib.hid hM
  have hM2 : ∀ j, j ≤ ht → wd * j ≤ 90000 := fun j hj => by
    have := Nat.mul_le_mul (show wd ≤ 300 by omega) (show j ≤ 300 by omega)
    omega
  have HM2 := Lib.hid hM2
  clear h hN hM hM2
  go_enter Try.func29, Try.ntmps29
  go_wp2
  go_loopw [13, 14] (fun vv iv wr => ∃ (j y L : Nat) (A1 : Option Addr) (c1 : Nat), Hid (y = y0 + j ∧ wd * j = L) ∧ j ≤ ht ∧ y ≤ y1 ∧ vv = .slice A1 L c1 ∧ iv = .int .i64 (y : Int) ∧ Hid (wr.ownsRow w.heap.size 3 1 (.slice A1 L c1) L ((flat wd j (subF x0 y0 P)).map (Value.int .i64)) ∧ Below w.heap.size w wr)) (fun _ iv _ => y1 - (intOf iv).toNat)
  case atStart => exact ⟨0, y0, 0, none, 0, Lib.hid ⟨rfl, Nat.mul_zero _⟩, by omega, by omega, rfl, rfl, Lib.hid ⟨by rw [show flat wd 0 (subF x0 y0 P) = [] from flat_wide _ _]; exact World.ownsRow_nil _ _ _ _, Below.refl _ _⟩⟩
  case round =>
    obtain ⟨j, y, L, A1, c1, hyj, hjt, hy1, rfl, rfl, S⟩ := hrel
    by_cases cy : y < y1
    · have cy' : (y : Int) < (y1 : Int) := by omega
      have hj2 : j < ht := by have := hyj.out.1; omega
      have hyH : y < H := by omega
      obtain ⟨m1, hm1⟩ : ∃ m1, y * W = m1 := ⟨_, rfl⟩
      have Q1 : Hid (wrap64 ((y : Int) * (W : Int)) = (m1 : Int)) := Lib.hid (by rw [← hm1]; exact wr_mul _ _ (by omega) (by omega))
      have hseg := seg_le (w := W) (h := H) (a := x0) (b := y) (wide := wd) (by omega) hyH
      have hfs := flat_seg (w := W) (h := H) (a := x0) (b := y) (wide := wd) P (by omega) hyH
      rw [hm1] at hseg hfs
      rw [HN.out] at hseg
      have hNb : N ≤ 90000 := by rw [← HN.out]; exact Nat.mul_le_mul hWH.1 hWH.2
      obtain ⟨lo, hlo⟩ : ∃ lo, m1 + x0 = lo := ⟨_, rfl⟩
      obtain ⟨hi, hhi⟩ : ∃ hi, m1 + x1 = hi := ⟨_, rfl⟩
      have q2 : (m1 : Int) + (x0 : Int) = (lo : Int) := by omega
      have q3 : (m1 : Int) + (x1 : Int) = (hi : Int) := by omega
      have hlo2 : lo ≤ 90000 := by omega
      have hhi2 : hi ≤ 90000 := by omega
      have hlen : L + wd ≤ 1000000 := by have := HM2.out j hjt; have := hyj.out.2; omega
      have hr1 := H1.out.keep S.out.2 (Nat.le_refl _)
      obtain ⟨Sa, cs, hslc, hrs⟩ := slice_row hr1 lo hi (by omega) (by omega) (lo : Int) (hi : Int) rfl rfl
      rw [show hi - lo = wd from by omega] at hslc hrs
      rw [← hlo, hfs] at hrs
      obtain ⟨v2, w2, hrun, hown2, hg2, _⟩ := app_row S.out.1 hrs S.out.2.size hlen
      obtain ⟨A2, c2, rfl, _, _, _⟩ := own_any hown2
      have S2 : Hid (w2.ownsRow w.heap.size 3 1 (.slice A2 (L + wd) c2) (L + wd) ((flat wd (j + 1) (subF x0 y0 P)).map (Value.int .i64)) ∧ Below w.heap.size w w2) := Lib.hid ⟨by
        have e : ranged (fun x => P (x0 + x) y) wd = ranged (fun x => subF x0 y0 P x j) wd := ranged_congr fun i _ => by
          show _ = P (x0 + i) (y0 + j)
          rw [hyj.out.1]
        rw [e, ← flat_succ] at hown2
        exact hown2, S.out.2.grown hg2 S.out.2.size (fun k hk => (S.out.1.lt k hk).1)⟩
      have hL : wd * (j + 1) = L + wd := by rw [Nat.mul_succ, hyj.out.2]
      have HL := Lib.hid hL
      clear hg2 hown2 hrs hr1 S hm1 hlo hhi hseg hfs hL
      have q1 := Q1.out
      go_wp2
      go_roundw
      case rel => exact ⟨j + 1, y + 1, L + wd, A2, c2, Lib.hid ⟨by have := hyj.out.1; omega, HL.out⟩, by omega, by omega, by first | rfl | go_num, by go_num, S2⟩
      case measure => simp [intOf]; omega
    · have hj : j = ht := by have := hyj.out.1; omega
      have hrow : RowO w.heap.size wr A1 M c1 (flat wd ht (subF x0 y0 P)) := by
        have h := S.out.1
        rw [← hyj.out.2, hj, HM.out] at h
        exact h
      have hLM : L = M := by rw [← hyj.out.2, hj, HM.out]
      subst hLM
      have hB := S.out.2
      clear S
      go_wp2
      go_ret
      exact ⟨_, _, rfl, hrow, hB⟩

attribute [local go_sem ↓] appSem_eq slcSem_eq in
set_option maxHeartbeats 4000000 in
set_option maxRecDepth 100000 in
theorem rrows_any {A : Option Addr} {c : Nat} (W H N : Nat) (a : Int) (e : Nat) (P : Nat → Nat → Int) (K : Int) (w : World) (hWH : W ≤ 300 ∧ H ≤ 300) (ha : 0 ≤ a) (he : a % 2 = e) (hK : 0 ≤ K ∧ K ≤ 1073741824) (hbd : Bd K W H P) (hN : W * H = N) (h : RowI w A N c (flat W H P)) :
    Calls Try.prog 26 #[.int .i64 (W : Int), .int .i64 (H : Int), .int .i64 a, .slice A N c, .bool false] w fun e' w' => ∃ A' c', e' = .returned (.slice A' N c') ∧ RowO w.heap.size w' A' N c' (flat W H (rowsF e W P)) ∧ Below w.heap.size w w' := by
  have e1 : e ≤ 1 := by omega
  have H1 := Lib.hid h
  have HN := Lib.hid hN
  have HBD := Lib.hid hbd
  have hM2 : ∀ j, j ≤ H → W * j ≤ 90000 := fun j hj => Nat.mul_le_mul hWH.1 (show j ≤ 300 by omega)
  have HM2 := Lib.hid hM2
  clear h hN hM2 hbd
  have hNb : N ≤ 90000 := by rw [← HN.out]; exact Nat.mul_le_mul hWH.1 hWH.2
  go_enter Try.func26, Try.ntmps26
  go_wp2
  go_loopw [11, 12] (fun vv iv wr => ∃ (j L : Nat) (A1 : Option Addr) (c1 : Nat), Hid (W * j = L) ∧ j ≤ H ∧ vv = .slice A1 L c1 ∧ iv = .int .i64 (j : Int) ∧ Hid (wr.ownsRow w.heap.size 3 1 (.slice A1 L c1) L ((flat W j (rowsF e W P)).map (Value.int .i64)) ∧ Below w.heap.size w wr)) (fun _ iv _ => H - (intOf iv).toNat)
  case atStart => exact ⟨0, 0, none, 0, Lib.hid (Nat.mul_zero _), by omega, rfl, rfl, Lib.hid ⟨by rw [show flat W 0 (rowsF e W P) = [] from flat_wide _ _]; exact World.ownsRow_nil _ _ _ _, Below.refl _ _⟩⟩
  case round =>
    obtain ⟨y, L, A1, c1, hyj, hjt, rfl, rfl, S⟩ := hrel
    by_cases cy : y < H
    · have cy' : (y : Int) < (H : Int) := by omega
      obtain ⟨m1, hm1⟩ : ∃ m1, y * W = m1 := ⟨_, rfl⟩
      have Q1 : Hid (wrap64 ((y : Int) * (W : Int)) = (m1 : Int)) := Lib.hid (by rw [← hm1]; exact wr_mul _ _ (by omega) (by omega))
      obtain ⟨m2, hm2⟩ : ∃ m2, (y + 1) * W = m2 := ⟨_, rfl⟩
      have Q2 : Hid (wrap64 (((y : Int) + 1) * (W : Int)) = (m2 : Int)) := Lib.hid (by
        rw [← hm2]
        have := wr_mul (y + 1) W (by omega) (by omega)
        rw [show ((y + 1 : Nat) : Int) = (y : Int) + 1 from by omega] at this
        exact this)
      have hm12 : m2 = m1 + W := by rw [← hm1, ← hm2, Nat.succ_mul]
      have hseg := seg_le (w := W) (h := H) (a := 0) (b := y) (wide := W) (by omega) cy
      have hfs := flat_seg (w := W) (h := H) (a := 0) (b := y) (wide := W) P (by omega) cy
      rw [hm1, Nat.add_zero] at hseg hfs
      rw [HN.out] at hseg
      have hlen : L + W ≤ 1000000 := by have := HM2.out y hjt; have := hyj.out; omega
      have hr1 := H1.out.keep S.out.2 (Nat.le_refl _)
      obtain ⟨Sa, cs, hslc, hrs⟩ := slice_row hr1 m1 m2 (by omega) (by omega) (m1 : Int) (m2 : Int) rfl rfl
      rw [show m2 - m1 = W from by omega] at hslc hrs
      rw [hfs] at hrs
      have hseg2 : ranged (fun x => P (0 + x) y) W = ranged (fun x => P x y) W := ranged_congr fun i _ => by rw [Nat.zero_add]
      rw [hseg2] at hrs
      have HC := Lib.hid (rs9_all a e hrs ha he (by omega) (fun i => by have := ranged_bdK (f := fun x => P x y) (n := W) hK.1 (fun i hi => HBD.out i y hi cy) i; omega))
      clear hr1 hrs hm1 hm2 hseg hfs hseg2 hm12
      have q1 := Q1.out
      have q2 := Q2.out
      go_wp2_with fail
      clear q1 q2
      refine HC.out.mono ?_
      rintro e' w2 ⟨A3, c3, rfl, hrw, hB2⟩
      have ho2 : w2.ownsRow w.heap.size 3 1 (.slice A1 L c1) L ((flat W y (rowsF e W P)).map (Value.int .i64)) := ownsRow_keep S.out.1 hB2.size (fun k hk => hB2.block k (own_lt S.out.1 hk).2)
      have hBB := S.out.2.trans (hB2.mono S.out.2.size)
      obtain ⟨v4, w4, hrun, hown4, hg4, _⟩ := app_row ho2 hrw.row hBB.size hlen
      obtain ⟨A4, c4, rfl, _, _, _⟩ := own_any hown4
      have S2 : Hid (w4.ownsRow w.heap.size 3 1 (.slice A4 (L + W) c4) (L + W) ((flat W (y + 1) (rowsF e W P)).map (Value.int .i64)) ∧ Below w.heap.size w w4) := Lib.hid ⟨by
        have e5 : SP e W (ranged (fun x => P x y) W) = ranged (fun x => rowsF e W P x y) W := (ranged_of _ _ (sp_len e1 (ranged_len _ _))).symm
        rw [e5, ← flat_succ] at hown4
        exact hown4, hBB.grown hg4 hBB.size (fun k hk => (ho2.lt k hk).1)⟩
      have HL := Lib.hid (show W * (y + 1) = L + W by rw [Nat.mul_succ, hyj.out])
      clear hg4 hown4 hBB ho2 hB2 hrw HC S
      go_wp2
      go_roundw
      case rel => exact ⟨y + 1, L + W, A4, c4, HL, by omega, by first | rfl | go_num, by go_num, S2⟩
      case measure => simp [intOf]; omega
    · have hj : y = H := by omega
      have hrow : RowO w.heap.size wr A1 N c1 (flat W H (rowsF e W P)) := by
        have h := S.out.1
        rw [← hyj.out, hj, HN.out] at h
        exact h
      have hLM : L = N := by rw [← hyj.out, hj, HN.out]
      subst hLM
      have hB := S.out.2
      clear S
      go_wp2
      go_ret
      exact ⟨_, _, rfl, hrow, hB⟩
end Go.Proofs.Ytgadebfelomhpaa
