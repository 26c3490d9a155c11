/- Rows of rows compared; the start of chapter 10's laws. -/
import Derived.Test.YtgadebfelomhpaaDwK
set_option linter.unusedVariables false
set_option linter.unusedSimpArgs false
namespace Go.Proofs.Ytgadebfelomhpaa
open Go.RowKit

theorem row_only {w w' : World} {A : Option Addr} {n c b0 : Nat} {l : List Int} (h : RowI w A n c l) (ho : Only (fun k => k = b0) w w') (hA : ∀ b o, A = some ⟨b, o, none⟩ → b ≠ b0) : RowI w' A n c l := by
  refine ⟨h.1, h.2.1, h.2.2.1, h.2.2.2.1, fun i u hu => ?_⟩
  obtain ⟨b, o, e, hb, hc⟩ := h.2.2.2.2 i u hu
  exact ⟨b, o, e, Nat.lt_of_lt_of_le hb ho.size, (ho.cell (p := ⟨b, o + i, none⟩) (hA b o e)).trans hc⟩
theorem RowsI.take {w : World} {A : Option Addr} {n c : Nat} {ls : List (List Int)} (h : RowsI w A n c ls) {k : Nat} (hk : k ≤ n) : RowsI w A k c (ls.take k) := by
  refine ⟨by rw [List.length_take, h.1]; omega, by have := h.2.1; omega, h.2.2.1, fun e => ?_, fun i l hi => ?_⟩
  · have := h.2.2.2.1 e; omega
  · rw [List.getElem?_take] at hi
    split at hi
    · exact h.2.2.2.2 i l hi
    · cases hi
theorem RowsI.drop {w : World} {b o n c : Nat} {ls : List (List Int)} (h : RowsI w (some ⟨b, o, none⟩) n c ls) {k : Nat} (hk : k ≤ n) : RowsI w (some ⟨b, o + k, none⟩) (n - k) (c - k) (ls.drop k) := by
  refine ⟨by rw [List.length_drop, h.1], by have := h.2.1; omega, by have := h.2.2.1; omega, (fun e => by cases e), fun i l hi => ?_⟩
  rw [List.getElem?_drop] at hi
  obtain ⟨b', o', A', c', e, hs, hc, hr⟩ := h.2.2.2.2 _ l hi
  injection e with e; injection e with e1 e2; subst e1 e2
  exact ⟨b, o + k, A', c', rfl, hs, by rw [Nat.add_assoc]; exact hc, hr⟩
theorem ints_q {A A' : Option Addr} {n c c' : Nat} {l : List Int} {w : World} (h : RowI w A n c l) (h' : RowI w A' n c' l) :
    Calls Try.prog 17 #[.slice A n c, .slice A' n c'] w fun e w' => e = .returned (.bool true) ∧ ∃ n, w' = w.drewN n := ints_yes h h'
set_option maxHeartbeats 2000000 in
theorem rows_yes {A A' : Option Addr} {n c c' : Nat} {ls : List (List Int)} {w : World} (h : RowsI w A n c ls) (h' : RowsI w A' n c' ls) :
    Calls Try.prog 14 #[.slice A n c, .slice A' n c'] w fun e w' => e = .returned (.bool true) ∧ ∃ n, w' = w.drewN n := by
  have hln := h.1
  have hnc := h.2.1
  have hcm := h.2.2.1
  unfold maxLen at hcm
  have H := Lib.hid h
  have H' := Lib.hid h'
  clear h h'
  go_enter Try.func14, Try.ntmps14
  go_wp2
  go_loopw [5] (fun i wr => ∃ k : Nat, k ≤ n ∧ i = .int .i64 k ∧ Drew w wr) (fun i _ => n - (intOf i).toNat)
  case atStart => exact ⟨0, by omega, rfl, Drew.refl _⟩
  case round =>
    obtain ⟨k, k0, rfl, d⟩ := hrel
    by_cases c1 : k < n
    · obtain ⟨l, hl⟩ : ∃ l, ls[k]? = some l := ⟨_, List.getElem?_eq_getElem (by omega)⟩
      obtain ⟨b, o, A1, c1', rfl, hbb, f1, r1⟩ := (H.out.drew d).at hl
      obtain ⟨b', o', A2, c2', rfl, hbb', f2, r2⟩ := (H'.out.drew d).at hl
      have HI := Lib.hid (fun m => ints_q (w := wr.drewN m) (r1.drew (Drew.mk _ m)) (r2.drew (Drew.mk _ m)))
      clear r1 r2 hl
      have c1i : (k : Int) < (n : Int) := by omega
      go_wp2
      go_quiet ((go_at_call 17; exact Calls.quiet_of (HI.out _)))
      go_wp2
      go_roundw
      case rel => exact ⟨k + 1, by omega, by go_num, d.trans (Drew.mk _ _)⟩
      case measure => simp [intOf]; omega
    · go_wp2
      go_ret
      exact ⟨rfl, d⟩
end Go.Proofs.Ytgadebfelomhpaa
