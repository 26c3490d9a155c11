/- LiftTwo, walked. -/
import Derived.Test.YtbhkmckeplcdfaaLiftLaws
set_option linter.unusedVariables false
namespace Go.Proofs.Ytbhkmckeplcdfaa
open Go.RowKit

theorem sp_two0 (a b : Int) : SP 0 2 [a, b] = [a + (2 * (b - a) + 2) / 4, b - a] := by
  show [_, _] = _
  have e1 : lowF 0 2 (fun i => ([a, b] : List Int).getD i 0) 0 = a + ((b - (a + a) / 2) + (b - (a + a) / 2) + 2) / 4 := rfl
  have e2 : lowF 0 2 (fun i => ([a, b] : List Int).getD i 0) 1 = b - (a + a) / 2 := rfl
  show [lowF 0 2 (fun i => ([a, b] : List Int).getD i 0) 0, lowF 0 2 (fun i => ([a, b] : List Int).getD i 0) 1] = _
  rw [e1, e2]
  congr 1
  · omega
  · congr 1; omega
theorem sp_two1 (a b : Int) : SP 1 2 [a, b] = [b + (2 * (a - b) + 2) / 4, a - b] := by
  have e1 : lowF 1 2 (fun i => ([a, b] : List Int).getD i 0) 1 = b + ((a - (b + b) / 2) + (a - (b + b) / 2) + 2) / 4 := rfl
  have e2 : lowF 1 2 (fun i => ([a, b] : List Int).getD i 0) 0 = a - (b + b) / 2 := rfl
  show [lowF 1 2 (fun i => ([a, b] : List Int).getD i 0) 1, lowF 1 2 (fun i => ([a, b] : List Int).getD i 0) 0] = _
  rw [e1, e2]
  congr 1
  · omega
  · congr 1; omega

set_option maxHeartbeats 2000000 in
theorem walk_liftTwo (a0 : Int) (a1 : Int) (a2 : Bool) (w : World) (w0 : (Lit.int .i64 a0).wf = true) (w1 : (Lit.int .i64 a1).wf = true) :
    Calls Try.prog 10 #[.int .i64 a0, .int .i64 a1, .bool a2] w fun e w' => e = .returned (.bool true) ∧ Below w.heap.size w w' := by
  clear w0 w1
  obtain ⟨x, hx⟩ : ∃ x, a0 % 1048576 - 524288 = x := ⟨_, rfl⟩
  obtain ⟨y, hy⟩ : ∃ y, a1 % 1048576 - 524288 = y := ⟨_, rfl⟩
  have rx : -524288 ≤ x ∧ x ≤ 524288 := by omega
  have ry : -524288 ≤ y ∧ y ≤ 524288 := by omega
  have q1 : IntKind.i64.wrap (a0 % 1048576 - 524288) = x := by rw [hx]; exact IntWalk.i64_in _ (by omega)
  have q2 : IntKind.i64.wrap (a1 % 1048576 - 524288) = y := by rw [hy]; exact IntWalk.i64_in _ (by omega)
  have hr : ∀ i, -1073741824 ≤ ([x, y] : List Int).getD i 0 ∧ ([x, y] : List Int).getD i 0 ≤ 1073741824 := fun i => by rcases i with _ | _ | i <;> simp <;> omega
  have HR := Lib.hid hr
  clear hr
  cases a2
  · go_enter Try.func10, Try.ntmps10
    go_wp2_with fail
    refine (known9 _).mono ?_
    rintro e w1 ⟨rfl, b1⟩
    go_wp2_with fail
    refine (within9 _ _ _ (by omega) (by omega)).mono ?_
    rintro e w' ⟨rfl, rfl⟩
    go_wp2_with fail
    refine (within9 _ _ _ (by omega) (by omega)).mono ?_
    rintro e w' ⟨rfl, rfl⟩
    go_wp2_with fail
    have hb1 : Below w1.heap.size w1 (w1.alloc (Obj.cells (([x, y] : List Int).map (Value.int .i64)).toArray 3)) := (Below.refl _ _).alloc (Nat.le_refl _) _
    refine (split_all 4 0 (show RowI (w1.alloc (Obj.cells (([x, y] : List Int).map (Value.int .i64)).toArray 3)) (some ⟨w1.heap.size, 0, none⟩) 2 2 [x, y] from rowI_new w1 [x, y] (by simp)) (by omega) (by omega) (by omega) HR.out).mono ?_
    rintro e w3 ⟨A3, c3, rfl, h3, b3⟩
    rw [sp_two0] at h3
    have b3 := b1.trans ((hb1.trans (b3.mono hb1.size)).mono b1.size)
    obtain ⟨p3, o3, rfl, _, f3⟩ := h3.cell (k := 0) (by omega)
    obtain ⟨p4, o4, hA, _, f4⟩ := h3.cell (k := 1) (by omega)
    injection hA with hA
    injection hA with hA1 hA2
    subst hA1 hA2
    change w3.cell? ⟨p3, o3, none⟩ = some (.int .i64 (x + (2 * (y - x) + 2) / 4)) at f3
    change w3.cell? ⟨p3, o3 + 1, none⟩ = some (.int .i64 (y - x)) at f4
    obtain ⟨d, hd⟩ : ∃ d, y - x = d := ⟨_, rfl⟩
    have rd : -1048576 ≤ d ∧ d ≤ 1048576 := by omega
    rw [hd] at f3 f4
    have hb2 : (d == d) = true := beq_self_eq_true _
    have hb3 : (x + (2 * d + 2) / 4 == x + (2 * d + 2) / 4) = true := beq_self_eq_true _
    clear h3 b1 hb1 hx hy q1 q2
    go_wp2
    go_ret
    exact ⟨rfl, b3⟩
  · go_enter Try.func10, Try.ntmps10
    go_wp2_with fail
    refine (known9 _).mono ?_
    rintro e w1 ⟨rfl, b1⟩
    go_wp2_with fail
    refine (within9 _ _ _ (by omega) (by omega)).mono ?_
    rintro e w' ⟨rfl, rfl⟩
    go_wp2_with fail
    refine (within9 _ _ _ (by omega) (by omega)).mono ?_
    rintro e w' ⟨rfl, rfl⟩
    go_wp2_with fail
    have hb1 : Below w1.heap.size w1 (w1.alloc (Obj.cells (([x, y] : List Int).map (Value.int .i64)).toArray 3)) := (Below.refl _ _).alloc (Nat.le_refl _) _
    refine (split_all 5 1 (show RowI (w1.alloc (Obj.cells (([x, y] : List Int).map (Value.int .i64)).toArray 3)) (some ⟨w1.heap.size, 0, none⟩) 2 2 [x, y] from rowI_new w1 [x, y] (by simp)) (by omega) (by omega) (by omega) HR.out).mono ?_
    rintro e w3 ⟨A3, c3, rfl, h3, b3⟩
    rw [sp_two1] at h3
    have b3 := b1.trans ((hb1.trans (b3.mono hb1.size)).mono b1.size)
    obtain ⟨p3, o3, rfl, _, f3⟩ := h3.cell (k := 0) (by omega)
    obtain ⟨p4, o4, hA, _, f4⟩ := h3.cell (k := 1) (by omega)
    injection hA with hA
    injection hA with hA1 hA2
    subst hA1 hA2
    change w3.cell? ⟨p3, o3, none⟩ = some (.int .i64 (y + (2 * (x - y) + 2) / 4)) at f3
    change w3.cell? ⟨p3, o3 + 1, none⟩ = some (.int .i64 (x - y)) at f4
    obtain ⟨d, hd⟩ : ∃ d, x - y = d := ⟨_, rfl⟩
    have rd : -1048576 ≤ d ∧ d ≤ 1048576 := by omega
    rw [hd] at f3 f4
    have hb2 : (d == d) = true := beq_self_eq_true _
    have hb3 : (y + (2 * d + 2) / 4 == y + (2 * d + 2) / 4) = true := beq_self_eq_true _
    clear h3 b1 hb1 hx hy q1 q2
    go_wp2
    go_ret
    exact ⟨rfl, b3⟩
end Go.Proofs.Ytbhkmckeplcdfaa
