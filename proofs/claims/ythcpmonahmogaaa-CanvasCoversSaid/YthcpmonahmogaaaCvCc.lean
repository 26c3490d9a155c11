/- canvas: a component's cells. -/
import Derived.Test.YthcpmonahmogaaaCvN2
set_option linter.unusedVariables false
set_option linter.unusedSimpArgs false
namespace Go.Proofs.Ythcpmonahmogaaa
open Go.RowKit
set_option maxRecDepth 100000
/-- A component's cells. -/
theorem CRow.cells {lo : Nat} {w : World} {V : Value} {cs : List Cp} (h : CRow lo w V cs) {i : Nat} {c : Cp} (hc : cs[i]? = some c) : ∃ g cap, V = .slice (some ⟨g, 0, none⟩) cs.length cap ∧ lo ≤ g ∧ g < w.heap.size ∧ cs.length ≤ cap ∧ cap ≤ maxLen ∧
    w.cell? ⟨g, i * 5, none⟩ = some (.int .i64 c.d) ∧ w.cell? ⟨g, i * 5 + 1, none⟩ = some (.bool c.sg) ∧ w.cell? ⟨g, i * 5 + 2, none⟩ = some (.int .i64 c.dx) ∧ w.cell? ⟨g, i * 5 + 3, none⟩ = some (.int .i64 c.dy) ∧ w.cell? ⟨g, i * 5 + 4, none⟩ = some (.slice c.A c.n c.cap) := by
  have hi : i < cs.length := (List.getElem?_eq_some_iff.1 hc).1
  obtain ⟨g, cap, hv, hg, hgl, hcc, hm⟩ := own_form h.own (by omega)
  have flat : ∀ (l : List Cp) (i : Nat) (c : Cp), l[i]? = some c → ∀ k, k < 5 → (l.flatMap cpV)[i * 5 + k]? = (cpV c)[k]? := by
    intro l
    induction l with
    | nil => intro i c hc; simp at hc
    | cons a l ih =>
      intro i c hc k hk
      rw [List.flatMap_cons]
      cases i with
      | zero =>
        simp at hc
        subst hc
        rw [Nat.zero_mul, Nat.zero_add, List.getElem?_append_left (by simp [cpV]; omega)]
      | succ i =>
        rw [List.getElem?_append_right (by simp [cpV]; omega), show (i + 1) * 5 + k - (cpV a).length = i * 5 + k by simp [cpV]; omega]
        exact ih i c (by simpa using hc) k hk
  have fc : ∀ k, k < 5 → w.cell? ⟨g, i * 5 + k, none⟩ = (cpV c)[k]? := fun k hk => by
    rw [← flat cs i c hc k hk]
    have h1 := h.own
    rw [hv] at h1
    exact h1.cellAt _ (by omega)
  exact ⟨g, cap, hv, hg, hgl, hcc, hm, fc 0 (by omega), fc 1 (by omega), fc 2 (by omega), fc 3 (by omega), fc 4 (by omega)⟩
end Go.Proofs.Ythcpmonahmogaaa
