/- The Reader of package bits: Bits and End. -/
import Derived.Test.YtobbkdhndojggaaBitR
set_option linter.unusedVariables false
namespace Go.Proofs.Ytobbkdhndojggaa
open Go.RowKit
set_option maxRecDepth 100000

/-- k bits read: where the Reader stands then, and their number. -/
def rbgo (F : List Int) (s : RS) : Nat → RS × Int
  | 0 => (s, 0)
  | k + 1 => (rsnext F (rbgo F s k).1, 2 * (rbgo F s k).2 + rsbit F (rbgo F s k).1)
theorem rsbit_rng (F : List Int) (s : RS) : 0 ≤ rsbit F s ∧ rsbit F s ≤ 1 := by
  unfold rsbit
  generalize curF F (rsnext F s).n / 2 ^ (rsnext F s).l = x
  omega
theorem rsnext_rng (F : List Int) (s : RS) (h : s.l ≤ 8) : (rsnext F s).l ≤ 7 ∧ (rsnext F s).n ≤ s.n + 1 := pstep_rng F (s.n, s.l) h
theorem rbgo_rng (F : List Int) (s : RS) (h : s.l ≤ 8) (k : Nat) : (rbgo F s k).1.l ≤ 8 ∧ (rbgo F s k).1.n ≤ s.n + k ∧ 0 ≤ (rbgo F s k).2 ∧ (rbgo F s k).2 < 2 ^ k := by
  induction k with
  | zero => exact ⟨h, Nat.le_refl _, by show (0 : Int) ≤ 0; omega, by show (0 : Int) < 2 ^ 0; decide⟩
  | succ k ih =>
    obtain ⟨a, b, c, d⟩ := ih
    have e := rsnext_rng F (rbgo F s k).1 a
    have f := rsbit_rng F (rbgo F s k).1
    have ps := pow_succ' k
    refine ⟨?_, ?_, ?_, ?_⟩
    · show (rsnext F (rbgo F s k).1).l ≤ 8; omega
    · show (rsnext F (rbgo F s k).1).n ≤ s.n + (k + 1); omega
    · show 0 ≤ 2 * (rbgo F s k).2 + rsbit F (rbgo F s k).1; omega
    · show 2 * (rbgo F s k).2 + rsbit F (rbgo F s k).1 < 2 ^ (k + 1); omega
theorem or_bit (v b : Int) (h0 : 0 ≤ v) (h1 : v < 1099511627776) (hb0 : 0 ≤ b) (hb1 : b ≤ 1) : bits .or .i64 (v * 2) b = 2 * v + b := by
  obtain ⟨x, rfl⟩ := Int.eq_ofNat_of_zero_le h0
  obtain ⟨y, rfl⟩ := Int.eq_ofNat_of_zero_le hb0
  show IntKind.i64.wrap ((BitVec.ofInt 64 ((x : Int) * 2) ||| BitVec.ofInt 64 (y : Int)).toNat : Int) = _
  have e1 : (BitVec.ofInt 64 ((x : Int) * 2)).toNat = x * 2 := by
    rw [BitVec.toNat_ofInt]; omega
  have e2 : (BitVec.ofInt 64 (y : Int)).toNat = y := by
    rw [BitVec.toNat_ofInt]; omega
  rw [BitVec.toNat_or, e1, e2]
  have e3 : x * 2 ||| y = x * 2 + y := by
    have := Nat.shiftLeft_add_eq_or_of_lt (b := y) (i := 1) (by omega) x
    rw [Nat.shiftLeft_eq, Nat.pow_one] at this
    exact this.symm
  rw [e3]
  rw [IntWalk.i64_in _ (by omega)]
  omega

/-- What End tells: how many bytes, and which error. -/
def endN (F : List Int) (s : RS) : Nat := if curF F s.n = 255 then s.n + 1 else s.n
def endBad (F : List Int) (s : RS) : Bool := s.bad || (decide (curF F s.n = 255) && decide (128 ≤ F.getD s.n 0))
def endK (F : List Int) (s : RS) : Nat := if F.length < endN F s then 0 else if endBad F s = true then 0 else endN F s
def endE (F : List Int) (s : RS) : Int := if F.length < endN F s then 8 else if endBad F s = true then 10 else 0

set_option maxHeartbeats 4000000 in
theorem rb_end {w : World} {lo p : Nat} {F : List Int} {s : RS} (h : Rb w lo p F s) (hl : F.length ≤ 90000) (h1 : s.n ≤ 90000) :
    Calls Try.prog 44 #[.pointer (some ⟨p, 0, none⟩)] w fun e w' => e = .returned (.tuple #[.int .i64 (endK F s : Int), .int .i64 (endE F s)]) ∧ Drew w w' := by
  obtain ⟨n, l, bad⟩ := s
  obtain ⟨hp, V, hb, hown⟩ := h
  simp only at h1
  obtain ⟨A, c, rfl, _, _, _⟩ := own_any hown
  obtain ⟨m, hm⟩ : ∃ m, F.length = m := ⟨_, rfl⟩
  have CU : Hid (∀ q, Calls Try.prog 58 #[.pointer (some ⟨p, 0, none⟩)] (w.drewN q) fun e w' => e = .returned (.int .u8 (curF F n)) ∧ Drew (w.drewN q) w') := Lib.hid (fun q => current_any (w := w.drewN q) (p := p) (n := n) (V := .slice A F.length c) (F := F) (by have := blk_cell hb 0; simpa using this) (by have := blk_cell hb 1; simpa using this) hown (by omega) (by omega))
  have AT : Hid (∀ q, Calls Try.prog 70 #[.pointer (some ⟨p, 0, none⟩), .int .i64 (n : Int)] (w.drewN q) fun e w' => e = .returned (.int .u8 (F.getD n 0)) ∧ (w.drewN q) = w') := Lib.hid (fun q => at_any (w := w.drewN q) (p := p) (V := .slice A F.length c) (F := F) (by have := blk_cell hb 0; simpa using this) hown n (by omega))
  have q0 := blk_cell hb 0
  have q1 := blk_cell hb 1
  have q3 := blk_cell hb 3
  simp at q0 q1 q3
  rw [hm] at q0 hl
  unfold endK endE endN endBad
  simp only
  rw [hm]
  clear hb hown hm
  generalize curF F n = cc at *
  generalize F.getD n 0 = y at *
  by_cases h255 : cc = 255
  · subst h255
    simp only [if_true, decide_true, Bool.true_and]
    by_cases hlen : m < n + 1
    · rw [if_pos hlen, if_pos hlen]
      have hli : (m : Int) < (n : Int) + 1 := by omega
      cases bad
      · by_cases hy : 128 ≤ y
        · have HY : Hid (∀ w2, Calls Try.prog 69 #[.int .u8 255, .int .u8 y] w2 fun e w3 => e = .returned (.bool false) ∧ w2 = w3) := Lib.hid (fun w2 => (follows_any w2 255 y).mono fun e w3 ⟨he, hw⟩ => ⟨by rw [he]; simp [hy]; try omega, hw⟩)
          go_enter Try.func44, Try.ntmps44
          go_wp2
          go_quiet (fail)
          go_wp2_with fail
          refine (CU.out _).mono ?_
          rintro e w1 ⟨rfl, dn, hd⟩
          rw [World.drewN_drewN] at hd
          have p0 : w1.cell? ⟨p, 0, none⟩ = some (.slice A m c) := by rw [hd]; exact q0
          have HD := Lib.hid hd
          clear hd
          have AT1 : Hid (Calls Try.prog 70 #[.pointer (some ⟨p, 0, none⟩), .int .i64 (n : Int)] w1 fun e w' => e = .returned (.int .u8 y) ∧ w1 = w') := by rw [HD.out]; exact AT.out _
          go_wp2_with fail
          refine AT1.out.mono ?_
          rintro e w2 ⟨rfl, rfl⟩
          go_wp2_with fail
          refine (HY.out _).mono ?_
          rintro e w2 ⟨rfl, rfl⟩
          go_wp2
          go_ret2
          exact ⟨rfl, _, HD.out⟩
        · have HY : Hid (∀ w2, Calls Try.prog 69 #[.int .u8 255, .int .u8 y] w2 fun e w3 => e = .returned (.bool true) ∧ w2 = w3) := Lib.hid (fun w2 => (follows_any w2 255 y).mono fun e w3 ⟨he, hw⟩ => ⟨by rw [he]; simp [hy]; try omega, hw⟩)
          go_enter Try.func44, Try.ntmps44
          go_wp2
          go_quiet (fail)
          go_wp2_with fail
          refine (CU.out _).mono ?_
          rintro e w1 ⟨rfl, dn, hd⟩
          rw [World.drewN_drewN] at hd
          have p0 : w1.cell? ⟨p, 0, none⟩ = some (.slice A m c) := by rw [hd]; exact q0
          have HD := Lib.hid hd
          clear hd
          have AT1 : Hid (Calls Try.prog 70 #[.pointer (some ⟨p, 0, none⟩), .int .i64 (n : Int)] w1 fun e w' => e = .returned (.int .u8 y) ∧ w1 = w') := by rw [HD.out]; exact AT.out _
          go_wp2_with fail
          refine AT1.out.mono ?_
          rintro e w2 ⟨rfl, rfl⟩
          go_wp2_with fail
          refine (HY.out _).mono ?_
          rintro e w2 ⟨rfl, rfl⟩
          go_wp2
          go_ret2
          exact ⟨rfl, _, HD.out⟩
      · go_enter Try.func44, Try.ntmps44
        go_wp2
        go_quiet (fail)
        go_wp2_with fail
        refine (CU.out _).mono ?_
        rintro e w1 ⟨rfl, dn, hd⟩
        rw [World.drewN_drewN] at hd
        have p0 : w1.cell? ⟨p, 0, none⟩ = some (.slice A m c) := by rw [hd]; exact q0
        have HD := Lib.hid hd
        clear hd
        go_wp2
        go_ret2
        exact ⟨rfl, _, HD.out⟩
    · rw [if_neg hlen, if_neg hlen]
      have hli : ¬ (m : Int) < (n : Int) + 1 := by omega
      cases bad
      · by_cases hy : 128 ≤ y
        · have HY : Hid (∀ w2, Calls Try.prog 69 #[.int .u8 255, .int .u8 y] w2 fun e w3 => e = .returned (.bool false) ∧ w2 = w3) := Lib.hid (fun w2 => (follows_any w2 255 y).mono fun e w3 ⟨he, hw⟩ => ⟨by rw [he]; simp [hy]; try omega, hw⟩)
          rw [decide_eq_true hy]
          simp only [Bool.or_true, if_true]
          go_enter Try.func44, Try.ntmps44
          go_wp2
          go_quiet (fail)
          go_wp2_with fail
          refine (CU.out _).mono ?_
          rintro e w1 ⟨rfl, dn, hd⟩
          rw [World.drewN_drewN] at hd
          have p0 : w1.cell? ⟨p, 0, none⟩ = some (.slice A m c) := by rw [hd]; exact q0
          have HD := Lib.hid hd
          clear hd
          have AT1 : Hid (Calls Try.prog 70 #[.pointer (some ⟨p, 0, none⟩), .int .i64 (n : Int)] w1 fun e w' => e = .returned (.int .u8 y) ∧ w1 = w') := by rw [HD.out]; exact AT.out _
          go_wp2_with fail
          refine AT1.out.mono ?_
          rintro e w2 ⟨rfl, rfl⟩
          go_wp2_with fail
          refine (HY.out _).mono ?_
          rintro e w2 ⟨rfl, rfl⟩
          go_wp2
          go_ret2
          exact ⟨rfl, _, HD.out⟩
        · have HY : Hid (∀ w2, Calls Try.prog 69 #[.int .u8 255, .int .u8 y] w2 fun e w3 => e = .returned (.bool true) ∧ w2 = w3) := Lib.hid (fun w2 => (follows_any w2 255 y).mono fun e w3 ⟨he, hw⟩ => ⟨by rw [he]; simp [hy]; try omega, hw⟩)
          rw [decide_eq_false hy]
          simp only [Bool.or_false, if_neg Bool.false_ne_true]
          go_enter Try.func44, Try.ntmps44
          go_wp2
          go_quiet (fail)
          go_wp2_with fail
          refine (CU.out _).mono ?_
          rintro e w1 ⟨rfl, dn, hd⟩
          rw [World.drewN_drewN] at hd
          have p0 : w1.cell? ⟨p, 0, none⟩ = some (.slice A m c) := by rw [hd]; exact q0
          have HD := Lib.hid hd
          clear hd
          have AT1 : Hid (Calls Try.prog 70 #[.pointer (some ⟨p, 0, none⟩), .int .i64 (n : Int)] w1 fun e w' => e = .returned (.int .u8 y) ∧ w1 = w') := by rw [HD.out]; exact AT.out _
          go_wp2_with fail
          refine AT1.out.mono ?_
          rintro e w2 ⟨rfl, rfl⟩
          go_wp2_with fail
          refine (HY.out _).mono ?_
          rintro e w2 ⟨rfl, rfl⟩
          go_wp2
          go_ret2
          exact ⟨rfl, _, HD.out⟩
      · simp only [Bool.true_or, if_true]
        go_enter Try.func44, Try.ntmps44
        go_wp2
        go_quiet (fail)
        go_wp2_with fail
        refine (CU.out _).mono ?_
        rintro e w1 ⟨rfl, dn, hd⟩
        rw [World.drewN_drewN] at hd
        have p0 : w1.cell? ⟨p, 0, none⟩ = some (.slice A m c) := by rw [hd]; exact q0
        have HD := Lib.hid hd
        clear hd
        go_wp2
        go_ret2
        exact ⟨rfl, _, HD.out⟩
  · have hcb : (cc == 255) = false := by simpa using h255
    simp only [if_neg h255, decide_eq_false h255, Bool.false_and, Bool.or_false]
    by_cases hlen : m < n
    · rw [if_pos hlen, if_pos hlen]
      have hli : (m : Int) < (n : Int) := by omega
      go_enter Try.func44, Try.ntmps44
      go_wp2
      go_quiet (fail)
      go_wp2_with fail
      refine (CU.out _).mono ?_
      rintro e w1 ⟨rfl, dn, hd⟩
      rw [World.drewN_drewN] at hd
      have p0 : w1.cell? ⟨p, 0, none⟩ = some (.slice A m c) := by rw [hd]; exact q0
      have HD := Lib.hid hd
      clear hd
      go_wp2
      go_ret2
      exact ⟨rfl, _, HD.out⟩
    · rw [if_neg hlen, if_neg hlen]
      have hli : ¬ (m : Int) < (n : Int) := by omega
      cases bad
      · go_enter Try.func44, Try.ntmps44
        go_wp2
        go_quiet (fail)
        go_wp2_with fail
        refine (CU.out _).mono ?_
        rintro e w1 ⟨rfl, dn, hd⟩
        rw [World.drewN_drewN] at hd
        have p0 : w1.cell? ⟨p, 0, none⟩ = some (.slice A m c) := by rw [hd]; exact q0
        have HD := Lib.hid hd
        clear hd
        go_wp2
        go_ret2
        exact ⟨rfl, _, HD.out⟩
      · go_enter Try.func44, Try.ntmps44
        go_wp2
        go_quiet (fail)
        go_wp2_with fail
        refine (CU.out _).mono ?_
        rintro e w1 ⟨rfl, dn, hd⟩
        rw [World.drewN_drewN] at hd
        have p0 : w1.cell? ⟨p, 0, none⟩ = some (.slice A m c) := by rw [hd]; exact q0
        have HD := Lib.hid hd
        clear hd
        go_wp2
        go_ret2
        exact ⟨rfl, _, HD.out⟩
end Go.Proofs.Ytobbkdhndojggaa
