/- The statements LayersEnds, LayersGrow and LayersOne of chapter 14, walked. -/
import Derived.Test.YtamcmpofhocigaaLayBase
set_option linter.unusedVariables false
namespace Go.Proofs.Ytamcmpofhocigaa
open Go.RowKit

set_option maxHeartbeats 1000000 in
theorem walk_layersEnds (a0 : Int) (a1 : Int) (w : World) (w0 : (Lit.int .i64 a0).wf = true) (w1 : (Lit.int .i64 a1).wf = true) :
    Calls Try.prog 6 #[.int .i64 a0, .int .i64 a1] w fun e w' => e = .returned (.bool true) ∧ Below w.heap.size w w' := by
  clear w0 w1
  go_enter Try.func6, Try.ntmps6
  go_wp2_with fail
  refine (known14 _).mono ?_
  rintro e w1 ⟨rfl, d1⟩
  have h1 := d1.below
  clear d1
  go_wp2_with fail
  refine (some14 _ _ _ (by omega) (by omega)).mono ?_
  rintro e w' ⟨k, rfl, k0, k1, rfl⟩
  go_wp2_with fail
  refine (some14 _ _ _ (by omega) (by omega)).mono ?_
  rintro e w' ⟨s, rfl, s0, s1, rfl⟩
  have HN := Lib.hid (ends_neg (s := s) (k := -1 - k) (by omega))
  cases h4 : (bits .and .i64 s 4 != 0)
  · cases b1 : (bits .and .i64 s 1 == 0)
    · have b1' : (bits .and .i64 s 1 != 0) = true := by simpa using b1
      have HF := Lib.hid (ends_some (s := s) (k := k) (by omega) h4 b1)
      by_cases c9 : 9 ≤ k
      · by_cases c3 : k % 3 = 1
        · have c3' : (k % 3 != 1) = false := by simpa using c3
          clear c3
          go_wp2_with fail
          refine (lends_any _ _ _ (by omega)).mono ?_
          rintro e w2 ⟨he, d2⟩
          rw [HF.out, decide_eq_false (by simp at c3'; omega)] at he
          subst he
          have h2 := Drew.to h1 d2
          clear h1 d2
          go_wp2_with fail
          refine (lends_any _ _ _ (by omega)).mono ?_
          rintro e w3 ⟨he, d3⟩
          rw [HN.out] at he
          subst he
          have h3 := Drew.to h2 d3
          clear h2 d3
          go_wp2
          go_ret
          exact ⟨rfl, h3⟩
        · have c3' : (k % 3 != 1) = true := by simpa using c3
          have c4 : 9 ≤ k ∧ k % 3 = 0 ∨ 10 ≤ k ∧ k % 3 = 2 := by omega
          have C4 := Lib.hid c4
          clear c3 c4
          go_wp2_with fail
          refine (lends_any _ _ _ (by omega)).mono ?_
          rintro e w2 ⟨he, d2⟩
          rw [HF.out, decide_eq_true C4.out] at he
          subst he
          have h2 := Drew.to h1 d2
          clear h1 d2
          go_wp2_with fail
          refine (lends_any _ _ _ (by omega)).mono ?_
          rintro e w3 ⟨he, d3⟩
          rw [HN.out] at he
          subst he
          have h3 := Drew.to h2 d3
          clear h2 d3
          go_wp2
          go_ret
          exact ⟨rfl, h3⟩
      · go_wp2_with fail
        refine (lends_any _ _ _ (by omega)).mono ?_
        rintro e w2 ⟨he, d2⟩
        rw [HF.out, decide_eq_false (by omega)] at he
        subst he
        have h2 := Drew.to h1 d2
        clear h1 d2
        go_wp2_with fail
        refine (lends_any _ _ _ (by omega)).mono ?_
        rintro e w3 ⟨he, d3⟩
        rw [HN.out] at he
        subst he
        have h3 := Drew.to h2 d3
        clear h2 d3
        go_wp2
        go_ret
        exact ⟨rfl, h3⟩
    · have HF := Lib.hid (ends_none (s := s) (k := k) (by omega) h4 b1)
      have b1' : (bits .and .i64 s 1 != 0) = false := by simpa using b1
      go_wp2_with fail
      refine (lends_any _ _ _ (by omega)).mono ?_
      rintro e w2 ⟨he, d2⟩
      rw [HF.out] at he
      subst he
      have h2 := Drew.to h1 d2
      clear h1 d2
      go_wp2_with fail
      refine (lends_any _ _ _ (by omega)).mono ?_
      rintro e w3 ⟨he, d3⟩
      rw [HN.out] at he
      subst he
      have h3 := Drew.to h2 d3
      clear h2 d3
      go_wp2
      go_ret
      exact ⟨rfl, h3⟩
  · have HF := Lib.hid (ends_all (s := s) (k := k) (by omega) h4)
    go_wp2_with fail
    refine (lends_any _ _ _ (by omega)).mono ?_
    rintro e w2 ⟨he, d2⟩
    rw [HF.out] at he
    subst he
    have h2 := Drew.to h1 d2
    clear h1 d2
    go_wp2_with fail
    refine (lends_any _ _ _ (by omega)).mono ?_
    rintro e w3 ⟨he, d3⟩
    rw [HN.out] at he
    subst he
    have h3 := Drew.to h2 d3
    clear h2 d3
    go_wp2
    go_ret
    exact ⟨rfl, h3⟩

/-- From one layer to the next there come as many passes as evenly as can be. -/
theorem pass_step {t n l : Int} (hn : 1 ≤ n) (ht : 0 ≤ t) (h0 : 0 ≤ l) (h1 : l + 1 ≤ n) :
    t / n ≤ passF t n (l + 1) - passF t n l ∧ passF t n (l + 1) - passF t n l ≤ (t + n - 1) / n := by
  rw [pass_in (by omega) h1]
  have e : passF t n l = t * l / n := by
    by_cases c : l < 1
    · rw [pass_lo c, show l = 0 from by omega, Int.mul_zero, Int.zero_ediv]
    · exact pass_in (by omega) (by omega)
  rw [e, Int.mul_add, Int.mul_one]
  have r0 := Int.emod_nonneg (t * l) (show n ≠ 0 by omega)
  have r1 := Int.emod_lt_of_pos (t * l) (show 0 < n by omega)
  have d := Int.mul_ediv_add_emod (t * l) n
  have e2 : (t * l + t) / n = t * l / n + (t * l % n + t) / n := by
    rw [show t * l + t = (t * l % n + t) + n * (t * l / n) from by omega, Int.add_mul_ediv_left _ _ (show n ≠ 0 by omega)]
    omega
  have m1 : t / n ≤ (t * l % n + t) / n := Int.ediv_le_ediv (by omega) (by omega)
  have m2 : (t * l % n + t) / n ≤ (t + n - 1) / n := Int.ediv_le_ediv (by omega) (by omega)
  omega
theorem up_le {t n : Int} (hn : 1 ≤ n) (ht : 0 ≤ t) : t / n ≤ (t + n - 1) / n ∧ (t + n - 1) / n ≤ t / n + 1 ∧ 0 ≤ t / n ∧ t / n ≤ t := by
  have r0 := Int.emod_nonneg t (show n ≠ 0 by omega)
  have r1 := Int.emod_lt_of_pos t (show 0 < n by omega)
  have d := Int.mul_ediv_add_emod t n
  have e2 : (t + n - 1) / n = t / n + (t % n + n - 1) / n := by
    rw [show t + n - 1 = (t % n + n - 1) + n * (t / n) from by omega, Int.add_mul_ediv_left _ _ (show n ≠ 0 by omega)]
    omega
  have m1 : 0 ≤ (t % n + n - 1) / n := Int.ediv_nonneg (by omega) (by omega)
  have m2 : (t % n + n - 1) / n < 2 := Int.ediv_lt_of_lt_mul (by omega) (by omega)
  exact ⟨by omega, by omega, Int.ediv_nonneg ht (by omega), Int.ediv_le_self _ ht⟩
theorem pass_rng {t n l : Int} (hn : 1 ≤ n) (ht : 0 ≤ t) : 0 ≤ passF t n l ∧ passF t n l ≤ t := by
  unfold passF
  split
  · omega
  · split
    · omega
    · refine ⟨Int.ediv_nonneg (Int.mul_nonneg ht (by omega)) (by omega), ?_⟩
      exact Int.ediv_le_of_le_mul (by omega) (Int.mul_le_mul_of_nonneg_left (by omega) ht)
theorem pass_end {t n : Int} (hn : 1 ≤ n) : passF t n n = t := by
  rw [pass_in hn (Int.le_refl _), Int.mul_ediv_cancel _ (by omega)]

theorem passes_some (t n l : Int) (w : World) (ht : 0 ≤ t ∧ t ≤ 100) (hn : 1 ≤ n ∧ n ≤ 100) (hl : -9223372036854775808 ≤ l ∧ l ≤ 9223372036854775807) :
    Calls Try.prog 13 #[.int .i64 t, .int .i64 n, .int .i64 l] w fun e w' => ∃ k, e = .returned (.int .i64 k) ∧ 0 ≤ k ∧ k ≤ t ∧ Hid (k = passF t n l) ∧ w = w' :=
  (passes_any t n l w ht hn hl).mono fun e w' ⟨he, hw⟩ => ⟨passF t n l, he, (pass_rng (by omega) ht.1).1, (pass_rng (by omega) ht.1).2, rfl, hw⟩

set_option maxHeartbeats 1000000 in
theorem walk_layersGrow (a0 : Int) (a1 : Int) (w : World) (w0 : (Lit.int .i64 a0).wf = true) (w1 : (Lit.int .i64 a1).wf = true) :
    Calls Try.prog 4 #[.int .i64 a0, .int .i64 a1] w fun e w' => e = .returned (.bool true) ∧ Below w.heap.size w w' := by
  clear w0 w1
  go_enter Try.func4, Try.ntmps4
  go_wp2_with fail
  refine (known14 _).mono ?_
  rintro e w1 ⟨rfl, d1⟩
  have h1 := d1.below
  clear d1
  go_wp2_with fail
  refine (some14 _ _ _ (by omega) (by omega)).mono ?_
  rintro e w' ⟨t, rfl, t0, t1, rfl⟩
  go_wp2_with fail
  refine (some14 _ _ _ (by omega) (by omega)).mono ?_
  rintro e w' ⟨m, rfl, m0, m1, rfl⟩
  have hup := up_le (t := t) (n := 1 + m) (by omega) t0
  have g0 : ¬ (1 + m) = 0 := by omega
  go_wp2_with fail
  go_loopw [5, 6] (fun was i wr => ∃ l p : Int, 0 ≤ l ∧ l ≤ 2 + m ∧ 0 ≤ p ∧ p ≤ t ∧ i = .int .i64 l ∧ was = .int .i64 p ∧ Hid (p = passF t (1 + m) (l - 1)) ∧ Below w.heap.size w wr)
    (fun _ i _ => (2 + m - intOf i).toNat)
  case atStart => exact ⟨0, 0, by omega, by omega, by omega, by omega, rfl, rfl, (pass_lo (by omega)).symm, h1⟩
  case round =>
    obtain ⟨l, p, l0, l1, p0, p1, rfl, rfl, HP, hb⟩ := hrel
    by_cases hl : l ≤ 1 + m
    · by_cases hl0 : l = 0
      · subst hl0
        obtain rfl : p = 0 := by rw [HP.out]; exact pass_lo (by omega)
        clear HP
        go_wp2_with fail
        refine (passes_some _ _ _ _ (by omega) (by omega) (by omega)).mono ?_
        rintro e w2 ⟨k, rfl, k0, k1, HK, rfl⟩
        have HK' : Hid (k = passF t (1 + m) (1 - 1)) := by
          rw [show (1 : Int) - 1 = 0 from rfl]
          exact HK
        clear HK
        go_wp2
        go_roundw
        case rel => exact ⟨1, k, by omega, by omega, by omega, by omega, by go_num, rfl, HK', hb⟩
        case measure => simp [intOf]; omega
      · go_wp2_with fail
        refine (passes_some _ _ _ _ (by omega) (by omega) (by omega)).mono ?_
        rintro e w2 ⟨k, rfl, k0, k1, HK, rfl⟩
        have hs := pass_step (t := t) (n := 1 + m) (l := l - 1) (by omega) t0 (by omega) (by omega)
        rw [show l - 1 + 1 = l from by omega, ← HP.out, ← HK.out] at hs
        have HK' : Hid (k = passF t (1 + m) (l + 1 - 1)) := by
          have := HK.out
          rw [show l + 1 - 1 = l from by omega]
          exact this
        clear HP HK
        by_cases c : k - p = t / (1 + m)
        · have c' : (k - p != t / (1 + m)) = false := by simpa using c
          clear c
          go_wp2
          go_roundw
          case rel => exact ⟨l + 1, k, by omega, by omega, by omega, by omega, by go_num, rfl, HK', hb⟩
          case measure => simp [intOf]; omega
        · have c' : (k - p != t / (1 + m)) = true := by simpa using c
          have c2 : (k - p != (t + (1 + m) - 1) / (1 + m)) = false := by simp; omega
          clear c
          go_wp2
          go_roundw
          case rel => exact ⟨l + 1, k, by omega, by omega, by omega, by omega, by go_num, rfl, HK', hb⟩
          case measure => simp [intOf]; omega
    · obtain rfl : l = 2 + m := by omega
      obtain rfl : p = t := by
        rw [HP.out, show 2 + m - 1 = 1 + m from by omega]
        exact pass_end (by omega)
      clear HP
      go_wp2_with fail
      refine (passes_any _ _ _ _ (by omega) (by omega) (by omega)).mono ?_
      rintro e w2 ⟨he, rfl⟩
      rw [pass_lo (by omega)] at he
      subst he
      go_wp2
      go_ret
      exact ⟨rfl, hb⟩

/-- Of one layer more: does it bring nothing? -/
theorem pass_one {t n l : Int} (hn : 1 ≤ n) (ht : 0 ≤ t) (h0 : 0 ≤ l) (h1 : l + 1 ≤ n) :
    (t ≤ n → passF t n (l + 1) = passF t n l ∨ passF t n (l + 1) = passF t n l + 1) ∧ (n ≤ t → passF t n l < passF t n (l + 1)) := by
  have hs := pass_step hn ht h0 h1
  have hu := up_le hn ht
  refine ⟨fun h => ?_, fun h => ?_⟩
  · have : (t + n - 1) / n < 2 := Int.ediv_lt_of_lt_mul (by omega) (by omega)
    omega
  · have : 1 ≤ t / n := by rw [Int.le_ediv_iff_mul_le (by omega)]; omega
    omega

set_option maxHeartbeats 1000000 in
theorem walk_layersOne (a0 : Int) (a1 : Int) (w : World) (w0 : (Lit.int .i64 a0).wf = true) (w1 : (Lit.int .i64 a1).wf = true) :
    Calls Try.prog 7 #[.int .i64 a0, .int .i64 a1] w fun e w' => e = .returned (.bool true) ∧ Below w.heap.size w w' := by
  clear w0 w1
  go_enter Try.func7, Try.ntmps7
  go_wp2_with fail
  refine (known14 _).mono ?_
  rintro e w1 ⟨rfl, d1⟩
  have h1 := d1.below
  clear d1
  go_wp2_with fail
  refine (some14 _ _ _ (by omega) (by omega)).mono ?_
  rintro e w' ⟨t, rfl, t0, t1, rfl⟩
  go_wp2_with fail
  refine (some14 _ _ _ (by omega) (by omega)).mono ?_
  rintro e w' ⟨m, rfl, m0, m1, rfl⟩
  go_wp2_with fail
  go_loopw [5, 6] (fun em i wr => ∃ l p f : Int, 0 ≤ l ∧ l ≤ 1 + m ∧ 0 ≤ f ∧ f ≤ l ∧ i = .int .i64 l ∧ em = .int .i64 f ∧ Hid (p = passF t (1 + m) l) ∧ (t ≤ 1 + m → f = l - p) ∧ (1 + m ≤ t → f = 0) ∧ Below w.heap.size w wr)
    (fun _ i _ => (1 + m - intOf i).toNat)
  case atStart => exact ⟨0, 0, 0, by omega, by omega, by omega, by omega, rfl, rfl, (pass_lo (by omega)).symm, by omega, by omega, h1⟩
  case round =>
    obtain ⟨l, p, f, l0, l1, f0, f1, rfl, rfl, HP, q1, q2, hb⟩ := hrel
    by_cases hl : l < 1 + m
    · have hs := pass_one (t := t) (n := 1 + m) (l := l) (by omega) t0 (by omega) (by omega)
      rw [← HP.out] at hs
      have HQ := Lib.hid (And.intro q1 q2)
      clear q1 q2
      go_wp2_with fail
      refine (passes_some _ _ _ _ (by omega) (by omega) (by omega)).mono ?_
      rintro e w2 ⟨k, rfl, k0, k1, HK, rfl⟩
      rw [← HK.out] at hs
      have HS := Lib.hid hs
      clear hs
      go_wp2_with fail
      refine (passes_any _ _ _ _ (by omega) (by omega) (by omega)).mono ?_
      rintro e w2 ⟨he, rfl⟩
      rw [← HP.out] at he
      subst he
      by_cases c : k = p
      · have c' : (k == p) = true := by simpa using c
        have C := Lib.hid c
        clear c
        go_wp2
        go_roundw
        case rel =>
          have := HS.out
          have := HQ.out
          have := C.out
          exact ⟨l + 1, k, f + 1, by omega, by omega, by omega, by omega, by go_num, by go_num, HK, by omega, by omega, hb⟩
        case measure => simp [intOf]; omega
      · have c' : (k == p) = false := by simpa using c
        have C := Lib.hid c
        clear c
        go_wp2
        go_roundw
        case rel =>
          have := HS.out
          have := HQ.out
          have := C.out
          exact ⟨l + 1, k, f, by omega, by omega, by omega, by omega, by go_num, rfl, HK, by omega, by omega, hb⟩
        case measure => simp [intOf]; omega
    · obtain rfl : l = 1 + m := by omega
      obtain rfl : p = t := by rw [HP.out]; exact pass_end (by omega)
      clear HP
      have e1 := Lib.hid (pass_end (t := p) (n := 1) (by omega))
      have e2 := Lib.hid (pass_hi (t := p) (n := 1 + m) (l := 1 + m + 1) (by omega) (by omega))
      have e3 := Lib.hid (pass_lo (t := p) (n := 1 + m) (l := -5) (by omega))
      by_cases c : p ≤ 1 + m
      · obtain rfl : f = 1 + m - p := q1 c
        clear q1 q2
        go_wp2_with fail
        refine (passes_any _ _ _ _ (by omega) (by omega) (by omega)).mono ?_
        rintro e w2 ⟨he, rfl⟩
        rw [e1.out] at he
        subst he
        go_wp2_with fail
        refine (passes_any _ _ _ _ (by omega) (by omega) (by omega)).mono ?_
        rintro e w2 ⟨he, rfl⟩
        rw [e2.out] at he
        subst he
        go_wp2_with fail
        refine (passes_any _ _ _ _ (by omega) (by omega) (by omega)).mono ?_
        rintro e w2 ⟨he, rfl⟩
        rw [e3.out] at he
        subst he
        go_wp2
        go_ret
        exact ⟨rfl, hb⟩
      · obtain rfl : f = 0 := q2 (by omega)
        clear q1 q2
        go_wp2_with fail
        refine (passes_any _ _ _ _ (by omega) (by omega) (by omega)).mono ?_
        rintro e w2 ⟨he, rfl⟩
        rw [e1.out] at he
        subst he
        go_wp2_with fail
        refine (passes_any _ _ _ _ (by omega) (by omega) (by omega)).mono ?_
        rintro e w2 ⟨he, rfl⟩
        rw [e2.out] at he
        subst he
        go_wp2_with fail
        refine (passes_any _ _ _ _ (by omega) (by omega) (by omega)).mono ?_
        rintro e w2 ⟨he, rfl⟩
        rw [e3.out] at he
        subst he
        go_wp2
        go_ret
        exact ⟨rfl, hb⟩
end Go.Proofs.Ytamcmpofhocigaa
