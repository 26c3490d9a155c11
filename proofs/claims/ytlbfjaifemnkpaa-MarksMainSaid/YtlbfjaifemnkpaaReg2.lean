/- A guarded operation that is not done. -/
import Derived.Test.YtlbfjaifemnkpaaReg
set_option linter.unusedVariables false
namespace Go.Proofs.Ytlbfjaifemnkpaa
section
variable {F : Fence} {n : Nat} {P : Program} {ops : Array Oper} {Q : Exit → Act → World → Prop}
theorem opIn_not_g {i j : Nat} {b c : Bool} {o : Oper} {a : Act} {w : World} {K : Act → World → Prop} (hi : ops[i]? = some o) (hg : o.guard = some (j, b)) (hy : yielded ops a.tmps j = some c) (hbc : c ≠ b) (hF : ∀ f, F.fn f)
    (hK : K (a.put o.dst undef) w) : wpOpIn F n P ops Q i K a w := by
  unfold wpOpIn
  simp only [hi]
  rw [if_neg (by simp [Region.wanted, hg, hy, hbc])]
  exact ⟨fun f _ => hF f, hK⟩
theorem opIn_not_u {i j : Nat} {b : Bool} {o : Oper} {a : Act} {w : World} {K : Act → World → Prop} (hi : ops[i]? = some o) (hg : o.guard = some (j, b)) (hy : yielded ops a.tmps j = none) (hF : ∀ f, F.fn f)
    (hK : K (a.put o.dst undef) w) : wpOpIn F n P ops Q i K a w := by
  unfold wpOpIn
  simp only [hi]
  rw [if_neg (by simp [Region.wanted, hg, hy])]
  exact ⟨fun f _ => hF f, hK⟩
end
end Go.Proofs.Ytlbfjaifemnkpaa
