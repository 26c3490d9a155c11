/- Trees: where a node stands, leaves, what is known. -/
import Derived.Test.YtobbkdhndojggaaBitQ
import Derived.Outline
set_option linter.unusedVariables false
set_option linter.unusedSimpArgs false
namespace Go.Proofs.Ytobbkdhndojggaa
open Go.RowKit
set_option maxRecDepth 100000
theorem wr_mul (a b : Nat) (h : a ≤ 4096) (h' : b ≤ 4096) : wrap64 ((a : Int) * (b : Int)) = ((a * b : Nat) : Int) := by
  have := Nat.mul_le_mul h h'
  rw [show (a : Int) * (b : Int) = ((a * b : Nat) : Int) by simp]
  exact IntWalk.wrap64_in _ (by omega)
/-- Where a node of a level stands. -/
theorem tat_any (W H n c x y m b o : Nat) (w : World) (hW : W ≤ 64 ∧ H ≤ 64) (hx : x < W) (hy : y < H) (hn : W * H = n) (hm : y * W + x = m) :
    Calls Try.prog 82 #[.agg #[.int .i64 (W : Int), .int .i64 (H : Int), .slice (some ⟨b, o, none⟩) n c], .int .i64 (x : Int), .int .i64 (y : Int)] w fun e w' => e = .returned (.pointer (some ⟨b, o + m * 3, none⟩)) ∧ Below w.heap.size w w' := by
  obtain ⟨m1, hm1⟩ : ∃ m1, y * W = m1 := ⟨_, rfl⟩
  have Q1 : Hid (wrap64 ((y : Int) * (W : Int)) = (m1 : Int)) := Lib.hid (by rw [← hm1]; exact wr_mul _ _ (by omega) (by omega))
  have q2 : (m1 : Int) + (x : Int) = (m : Int) := by omega
  have hmn : m < n := by
    rw [← hm, ← hn]
    have : (y + 1) * W ≤ H * W := Nat.mul_le_mul_right W hy
    rw [Nat.mul_comm W H, Nat.succ_mul] at *
    omega
  have hmn' : (m : Int) < (n : Int) := by omega
  have hmb : m ≤ 5000 := by
    have := Nat.mul_le_mul hW.1 hW.2
    omega
  clear hm hn hm1
  have q1 := Q1.out
  go_enter Try.func82, Try.ntmps82
  go_wp2
  go_ret
  exact ⟨rfl, (Below.refl _ w).alloc (Nat.le_refl _) _⟩
/-- What leaf k comes to. -/
theorem leaf_yes (p L d cl W n c k qm qd : Nat) (V : Option Addr) (w : World) (h0 : w.cell? ⟨p, 0, none⟩ = some (.slice (some ⟨L, 0, none⟩) d cl)) (hd : 1 ≤ d) (hW : 1 ≤ W)
    (h1 : w.cell? ⟨L, 0, none⟩ = some (.int .i64 (W : Int))) (h2 : w.cell? ⟨L, 2, none⟩ = some (.slice V n c)) (hk : k < n) (hn : n ≤ 5000) (hqm : k % W = qm) (hqd : k / W = qd) :
    Calls Try.prog 81 #[.pointer (some ⟨p, 0, none⟩), .int .i64 (k : Int)] w fun e w' => e = .returned (.tuple #[.int .i64 (qm : Int), .int .i64 (qd : Int), .bool true]) ∧ ∃ nq, w' = w.drewN nq := by
  have e1 : ((d : Int) == 0) = false := by simp; omega
  have e2 : ¬ (k : Int) < 0 := by omega
  have e3 : ¬ (n : Int) ≤ (k : Int) := by omega
  have e4 : (0 : Int) < (d : Int) := by omega
  have e5 : ¬ (W : Int) = 0 := by omega
  have t1 : (k : Int).tmod (W : Int) = (qm : Int) := by rw [← hqm]; exact (Int.ofNat_tmod k W).symm
  have t2 : (k : Int).tdiv (W : Int) = (qd : Int) := by rw [← hqd]; exact (Int.ofNat_tdiv k W).symm
  have t3 : qm ≤ 5000 := by have := Nat.mod_le k W; omega
  have t4 : qd ≤ 5000 := by have := Nat.div_le_self k W; omega
  have t5 : IntKind.i64.wrap (qm : Int) = (qm : Int) := IntWalk.i64_in _ (by omega)
  have t6 : IntKind.i64.wrap (qd : Int) = (qd : Int) := IntWalk.i64_in _ (by omega)
  clear hqm hqd
  go_enter Try.func81, Try.ntmps81
  go_wp2
  go_quiet (fail)
  go_wp2
  go_ret3
  exact ⟨rfl, nq, rfl⟩
/-- What is known of a leaf that is there. -/
theorem known_yes (p L d cl W H n c k qm qd b ob : Nat) (num low : Int) (said : Bool) (w : World) (h0 : w.cell? ⟨p, 0, none⟩ = some (.slice (some ⟨L, 0, none⟩) d cl)) (hd : 1 ≤ d) (hWH : 1 ≤ W ∧ W ≤ 64 ∧ H ≤ 64) (hN : W * H = n)
    (h1 : w.cell? ⟨L, 0, none⟩ = some (.int .i64 (W : Int))) (h3 : w.cell? ⟨L, 1, none⟩ = some (.int .i64 (H : Int))) (h2 : w.cell? ⟨L, 2, none⟩ = some (.slice (some ⟨b, ob, none⟩) n c)) (hk : k < n) (hqm : k % W = qm) (hqd : k / W = qd)
    (m0 : w.cell? ⟨b, ob + k * 3, none⟩ = some (.int .i64 num)) (m2 : w.cell? ⟨b, ob + k * 3 + 2, none⟩ = some (.bool said)) (hLp : L < w.heap.size) (hbp : b < w.heap.size) :
    Calls Try.prog 112 #[.pointer (some ⟨p, 0, none⟩), .int .i64 (k : Int)] w fun e w' => e = .returned (.int .i64 (if said then num else -1)) ∧ Below w.heap.size w w' := by
  have hn5 : n ≤ 5000 := by
    have := Nat.mul_le_mul hWH.2.1 hWH.2.2
    omega
  have HL := Lib.hid (leaf_yes p L d cl W n c k qm qd (some ⟨b, ob, none⟩) w h0 hd hWH.1 h1 h2 hk hn5 hqm hqd)
  have hx : qm < W := by rw [← hqm]; exact Nat.mod_lt _ (by omega)
  have hy : qd < H := by rw [← hqd]; exact Nat.div_lt_of_lt_mul (by rw [hN]; exact hk)
  have hm : qd * W + qm = k := by rw [← hqm, ← hqd, Nat.mul_comm]; exact Nat.div_add_mod k W
  have HA := Lib.hid (fun W' => tat_any W H n c qm qd k b ob W' ⟨hWH.2.1, hWH.2.2⟩ hx hy hN hm)
  have e4 : (0 : Int) < (d : Int) := by omega
  clear hqm hqd hm hN hx hy
  go_enter Try.func112, Try.ntmps112
  go_wp2_with fail
  refine HL.out.mono ?_
  rintro e w1 ⟨rfl, nq, rfl⟩
  go_wp2_with fail
  refine (HA.out _).mono ?_
  rintro e w2 ⟨rfl, hb⟩
  have g0 : w2.cell? ⟨b, ob + k * 3, none⟩ = some (.int .i64 num) := (hb.cell (p := ⟨b, ob + k * 3, none⟩) hbp).trans m0
  have g2 : w2.cell? ⟨b, ob + k * 3 + 2, none⟩ = some (.bool said) := (hb.cell (p := ⟨b, ob + k * 3 + 2, none⟩) hbp).trans m2
  have HB : Hid (Below w.heap.size w w2) := Lib.hid ((below_drewN (Below.refl _ w) nq).trans (hb.mono (Nat.le_refl _)))
  clear hb m0 m2 h0 h1 h2 h3
  cases said with
  | false =>
    go_wp2
    go_ret
    exact ⟨rfl, HB.out⟩
  | true =>
    go_wp2
    go_ret
    exact ⟨rfl, HB.out⟩
end Go.Proofs.Ytobbkdhndojggaa
