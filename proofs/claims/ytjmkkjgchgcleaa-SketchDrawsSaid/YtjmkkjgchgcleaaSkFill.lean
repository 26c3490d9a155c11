/- fill of package sketch, by its contract. -/
import Derived.Test.YtjmkkjgchgcleaaSkPart
set_option linter.unusedVariables false
namespace Go.Proofs.Ytjmkkjgchgcleaa
open Go.RowKit

/-- The first n elements of a rectangle, row by row. -/
def gridP (g : Int → Int → Int) (wd n : Nat) : List Int := (List.range n).map fun k => g ((k % wd : Nat) : Int) ((k / wd : Nat) : Int)
theorem gridP_len (g : Int → Int → Int) (wd n : Nat) : (gridP g wd n).length = n := by simp [gridP]
theorem gridP_succ (g : Int → Int → Int) {wd i j : Nat} (hi : i < wd) : gridP g wd (j * wd + (i + 1)) = gridP g wd (j * wd + i) ++ [g (i : Int) (j : Int)] := by
  unfold gridP
  rw [← Nat.add_assoc, List.range_succ, List.map_append, List.map_singleton]
  rw [show (j * wd + i) % wd = i by rw [Nat.mul_comm, Nat.mul_add_mod, Nat.mod_eq_of_lt hi], show (j * wd + i) / wd = j by rw [Nat.mul_comm, Nat.mul_add_div (by omega), Nat.div_eq_of_lt hi, Nat.add_zero]]
theorem own_snoc {w : World} {N k g c : Nat} {E : List Int} {s : Int} (h : w.ownsRow N 3 1 (.slice (some ⟨g, 0, none⟩) (k + 1) c) (k + 1) (E.map (Value.int .i64) ++ [.int .i64 s])) : w.ownsRow N 3 1 (.slice (some ⟨g, 0, none⟩) (k + 1) c) (k + 1) ((E ++ [s]).map (Value.int .i64)) := by
  rw [List.map_append]; exact h

set_option maxHeartbeats 4000000 in
theorem fill_any (w : World) (wd hg bn bm : Nat) (kind m c : Int) (hS : Smp w bn bm kind m c) (hw : wd ≤ 64) (hh : hg ≤ 64) :
    Calls Try.prog 18 #[.int .i64 wd, .int .i64 hg, .func (.func 34) #[] #[.pointer (some ⟨bn, 0, none⟩), .pointer (some ⟨bm, 0, none⟩)]] w fun e w' => ∃ (A : Option Addr) (cap : Nat), e = .returned (.slice A (hg * wd) cap) ∧
      w'.ownsRow w.heap.size 3 1 (.slice A (hg * wd) cap) (hg * wd) ((gridP (smpF kind m c) wd (hg * wd)).map (Value.int .i64)) ∧ Below w.heap.size w w' := by
  obtain ⟨i0, hi, hz0, hz1, hz2⟩ := info_parts Try.info3
  have hprod : hg * wd ≤ 4096 := by have := Nat.mul_le_mul hh hw; omega
  have hpi : (0 : Int) ≤ (wd : Int) * (hg : Int) ∧ (wd : Int) * (hg : Int) ≤ 4096 := by
    have e : (wd : Int) * (hg : Int) = ((hg * wd : Nat) : Int) := by push_cast; rw [Int.mul_comm]
    omega
  obtain ⟨wm, hr, hown0, hgrow0⟩ := run_make_own (P := Try.prog) w w.heap.size 39 3 i0 (.int .i64 0) 1 Try.underlying39 hi hz0 hz1 .i64 .i64 (hg * wd) (by rw [hz2]; omega) (by unfold maxLen; omega) (Nat.le_refl _)
  have hr9 : (Instr.makeSlice 39 (.int .i64 0) (.int .i64 ((wd : Int) * (hg : Int)))).run Try.prog w = .ok (.slice (some ⟨w.heap.size, 0, none⟩) 0 (hg * wd)) wm := by
    rw [← hr]; congr 3; push_cast; rw [Int.mul_comm]
  have hB0 : Below w.heap.size w wm := (Below.refl _ w).grown hgrow0 (Nat.le_refl _) (fun j e => by cases e)
  have HS := Lib.hid hS
  have HO := Lib.hid hown0
  clear hr hS hown0 hgrow0
  go_enter Try.func18, Try.ntmps18
  go_wp2
  clear hr9
  go_loopw [7, 15] (fun v jv wr => ∃ j : Nat, j ≤ hg ∧ jv = .int .i64 j ∧ wr.ownsRow w.heap.size 3 1 v (j * wd) ((gridP (smpF kind m c) wd (j * wd)).map (Value.int .i64)) ∧ Below w.heap.size w wr) (fun _ jv _ => hg - (intOf jv).toNat)
  case atStart => exact ⟨0, by omega, rfl, by simpa [gridP] using HO.out, hB0⟩
  case round =>
    obtain ⟨j, hj, rfl, hO, hB⟩ := hrel
    by_cases cj : j < hg
    · have cj' : (j : Int) < (hg : Int) := by omega
      obtain ⟨wo, rfl⟩ : ∃ wo : World, wo = wr := ⟨_, rfl⟩
      go_wp2
      go_loopw [7, 19] (fun v iv wr => ∃ i : Nat, i ≤ wd ∧ iv = .int .i64 i ∧ wr.ownsRow w.heap.size 3 1 v (j * wd + i) ((gridP (smpF kind m c) wd (j * wd + i)).map (Value.int .i64)) ∧ Below w.heap.size w wr) (fun _ iv _ => wd - (intOf iv).toNat)
      case atStart => exact ⟨0, by omega, rfl, hO, hB⟩
      case round =>
        obtain ⟨i, hi', rfl, hO2, hB2⟩ := hrel
        clear hO hB
        by_cases ci : i < wd
        · have ci' : (i : Int) < (wd : Int) := by omega
          have hx := HS.out wr i j hB2 (by omega) (by omega) (by omega) (by omega)
          have HG := Lib.hid (gridP_succ (smpF kind m c) (j := j) ci)
          generalize smpF kind m c i j = x at *
          have hmx : j * wd + i < 4096 + 64 := by
            have := Nat.mul_le_mul (show j ≤ 64 by omega) hw; omega
          go_wp2_with (first | (go_at_call 34; refine hx.mono ?_; clear hx; rintro e w2 ⟨rfl, d2⟩; have hO3 : w2.ownsRow w.heap.size 3 1 u7 (j * wd + i) ((gridP (smpF kind m c) wd (j * wd + i)).map (Value.int .i64)) := (by obtain ⟨nd, rfl⟩ := d2; exact hO2); have hB3 := Drew.to hB2 d2; clear d2 hO2 hB2) | (at_builtin; refine wpList_append_own _ rfl _ _ 39 rfl w.heap.size 3 i0 (.int .i64 0) 1 8 Try.underlying39 hi hz0 hz1 hz2 rfl (by decide) _ _ _ rfl (hO3.alloc _) ⟨w2.heap.size, 0, none⟩ 1 1 [.int .i64 x] rfl rfl (cell_one_new _ _ _) (by simp [Value.oneCell']) (by unfold maxLen; omega) (by omega) (by have := hB3.size; simp; omega) ?_; intro v' w1 hown' hgrow _; obtain ⟨g', cap', rfl⟩ := ownsRow_succ hown'; have hB1 := (hB3.alloc hB3.size _).grown hgrow (by have := hB3.size; simp; omega) (fun q e => (own_lt hO3 e).1)))
          have HO4 := Lib.hid (own_snoc hown')
          clear hown' hgrow hO3 hB3
          go_roundw
          case rel => exact ⟨i + 1, by omega, by go_num, by rw [HG.out]; exact HO4.out, hB1⟩
          case measure => simp [intOf]; omega
        · obtain rfl : i = wd := by omega
          have HO2 : Hid (wr.ownsRow w.heap.size 3 1 u7 ((j + 1) * i) ((gridP (smpF kind m c) i ((j + 1) * i)).map (Value.int .i64))) := Lib.hid (by rw [Nat.succ_mul]; exact hO2)
          clear hO2
          go_wp2
          go_roundw
          case rel => exact ⟨j + 1, by omega, by go_num, HO2.out, hB2⟩
          case measure => simp [intOf]; omega
    · obtain rfl : j = hg := by omega
      obtain ⟨A, cap, rfl, _⟩ := own_any hO
      have HO2 := Lib.hid hO
      clear hO
      go_wp2
      go_ret
      exact ⟨A, cap, rfl, HO2.out, hB⟩
end Go.Proofs.Ytjmkkjgchgcleaa
