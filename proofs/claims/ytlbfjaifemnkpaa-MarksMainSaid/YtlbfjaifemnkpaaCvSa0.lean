/- canvas: as many samples as places (CanvasSamples): mathematics. -/
import Derived.Test.YtlbfjaifemnkpaaCvK
import Derived.Test.YtlbfjaifemnkpaaCvF
import Derived.Test.YtlbfjaifemnkpaaAnyInv
import Derived.Test.YtlbfjaifemnkpaaCvSm
import Derived.Test.YtlbfjaifemnkpaaCvG
import Derived.Deep.LoopGhost
set_option linter.unusedVariables false
set_option linter.unusedSimpArgs false
namespace Go.Proofs.Ytlbfjaifemnkpaa
open Go.RowKit
set_option maxRecDepth 100000
theorem sa_bds (d : Nat) (sg : Bool) (hd : 1 ≤ d ∧ d ≤ 16) : -65536 ≤ leastF d sg ∧ leastF d sg ≤ 0 ∧ 0 ≤ mostF d sg ∧ mostF d sg ≤ 65536 := by
  have p : ∀ k : Nat, k ≤ 16 → 1 ≤ (2 : Int) ^ k ∧ (2 : Int) ^ k ≤ 65536 := fun k hk => by
    have h1 : ((2 ^ k : Nat) : Int) = (2 : Int) ^ k := by simp
    have h2 : 2 ^ k ≤ 2 ^ 16 := Nat.pow_le_pow_right (by decide) hk
    have h3 : 1 ≤ 2 ^ k := Nat.one_le_two_pow
    have h4 : 2 ^ 16 = 65536 := by decide
    rw [← h1]; omega
  have p1 := p d hd.2
  have p2 := p (d - 1) (by omega)
  unfold leastF mostF
  cases sg
  · simp; omega
  · simp; omega
/-- One number more behind a row of whole numbers. -/
theorem app_int {w : World} {base m z : Nat} {x : Int} {v : Value} {xs : List Value} (hown : w.ownsRow base 3 1 v m xs) (hz : w.heap[z]? = some (.cells #[.int .i64 x] 3 (0, 0))) (hb : base ≤ w.heap.size) (hm : m ≤ 100000) :
    ∃ v' w', (appSem #[22, 22] 22 #[v, .slice (some ⟨z, 0, none⟩) 1 1]).run Try.prog w = .ok v' w' ∧ w'.ownsRow base 3 1 v' (m + 1) (xs ++ [.int .i64 x]) ∧ w.grownBy w' v.ownBlock ∧ (v'.ownBlock = v.ownBlock ∨ v'.ownBlock = some w.heap.size) := by
  obtain ⟨i0, hi, hzz⟩ := Option.map_eq_some_iff.1 Try.info3
  simp only [Prod.mk.injEq] at hzz
  obtain ⟨hz0, hz1, hz2⟩ := hzz
  obtain ⟨v', w', hr, hown', hg, _, hat⟩ := run_append_own_at (P := Try.prog) w base 22 22 3 i0 _ 1 8 (by kernel_rfl) hi hz0 hz1 hz2 rfl (by decide) v m xs hown ⟨z, 0, none⟩ 1 1 [.int .i64 x] rfl (fun j u hu => by
    rcases j with _ | j
    · simp at hu; subst hu; simp [World.cell?, Addr.add, hz]
    · simp at hu) (fun u hu => by
    simp at hu
    subst hu; rfl) (by unfold maxLen; omega) (by omega) hb
  exact ⟨v', w', hr, hown', hg, hat⟩
section
variable {w0 w w' : World} {bm cb : Nat} {x y d dx dy : Int} {sg : Bool} {V : Value}
end
end Go.Proofs.Ytlbfjaifemnkpaa
