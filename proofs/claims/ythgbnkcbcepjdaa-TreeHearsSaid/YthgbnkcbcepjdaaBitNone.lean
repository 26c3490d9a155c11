/- BitsNone, walked. -/
import Derived.Test.YthgbnkcbcepjdaaBitQ
set_option linter.unusedVariables false
namespace Go.Proofs.Ythgbnkcbcepjdaa
open Go.RowKit

theorem none_key (F : List Int) (hF : F = [170]) : (rbgo F ⟨0, 0, false⟩ 8).2 = 170 ∧ endK F ⟨0, 0, false⟩ = 0 ∧ endE F ⟨0, 0, false⟩ = 0 := by
  subst hF; decide +kernel
theorem Rb.low {w : World} {lo lo' p : Nat} {F : List Int} {s : RS} (h : Rb w lo p F s) (hl : lo' ≤ lo) : Rb w lo' p F s := by
  obtain ⟨hp, V, hb, hv⟩ := h
  exact ⟨Nat.le_trans hl hp, V, hb, hv.mono hl⟩
theorem Rb.below {w w' : World} {lo p : Nat} {F : List Int} {s : RS} (h : Rb w lo p F s) (hb : Below w.heap.size w w') : Rb w' lo p F s := by
  have lt := h.lt
  obtain ⟨hp, V, h1, hv⟩ := h
  exact ⟨hp, V, (hb.block p lt).trans h1, ownsRow_keep hv hb.size (fun k hk => hb.block k (hv.lt k hk).2)⟩
end Go.Proofs.Ythgbnkcbcepjdaa
