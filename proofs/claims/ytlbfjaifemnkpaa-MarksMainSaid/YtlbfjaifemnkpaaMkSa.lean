/- marks: Same. -/
import Derived.Test.YtlbfjaifemnkpaaMkHd
set_option linter.unusedVariables false
set_option linter.unusedSimpArgs false
namespace Go.Proofs.Ytlbfjaifemnkpaa
open Go.RowKit
set_option maxRecDepth 100000
/-- Components are alike but for samples. -/
def likeC (c c' : Cp) : Bool := decide (c.d = c'.d) && (c.sg == c'.sg) && decide (c.dx = c'.dx) && decide (c.dy = c'.dy)
set_option maxHeartbeats 4000000 in
theorem alike_fn (c c' : Cp) (w : World) :
    Calls Try.prog 37 #[.agg #[.int .i64 c.d, .bool c.sg, .int .i64 c.dx, .int .i64 c.dy, .slice c.A c.n c.cap], .agg #[.int .i64 c'.d, .bool c'.sg, .int .i64 c'.dx, .int .i64 c'.dy, .slice c'.A c'.n c'.cap]] w fun e w' => e = .returned (.bool (likeC c c')) ∧ Below w.heap.size w w' := by
  obtain ⟨r, hr⟩ : ∃ r, likeC c c' = r := ⟨_, rfl⟩
  rw [hr]
  obtain ⟨d, sg, dx, dy, A, n, cap⟩ := c
  obtain ⟨d', sg', dx', dy', A', n', cap'⟩ := c'
  unfold likeC at hr
  simp only at hr ⊢
  have HR := Lib.hid hr
  clear hr
  have HB : ∀ o o' : Obj, Below w.heap.size w ((w.alloc o).alloc o') := fun o o' => ((Below.refl _ w).alloc (Nat.le_refl _) _).alloc (by unfold World.alloc; simp) _
  have hA := Lib.hid HB
  clear HB
  by_cases h1 : d = d'
  · by_cases h2 : sg = sg'
    · by_cases h3 : dx = dx'
      · by_cases h4 : dy = dy'
        · subst h1 h2 h3 h4
          have hr : r = true := by have := HR.out; simp at this; exact this
          subst hr
          go_enter Try.func37, Try.ntmps37
          go_wp2_with fail
          go_ret
          exact ⟨rfl, hA.out _ _⟩
        · subst h1 h2 h3
          have hr : r = false := by have := HR.out; simp [h4] at this; first | exact this | exact this.symm | skip
          subst hr
          go_enter Try.func37, Try.ntmps37
          go_wp2_with fail
          go_ret
          exact ⟨by show Ending.returned (Value.bool (dy == dy')) = _; simp [h4], hA.out _ _⟩
      · subst h1 h2
        have hr : r = false := by have := HR.out; simp [h3] at this; first | exact this | exact this.symm | skip
        subst hr
        go_enter Try.func37, Try.ntmps37
        go_wp2_with fail
        go_ret
        exact ⟨rfl, hA.out _ _⟩
    · subst h1
      have hr : r = false := by have := HR.out; simp [show (sg == sg') = false from by simpa using h2] at this; first | exact this | exact this.symm | skip
      subst hr
      go_enter Try.func37, Try.ntmps37
      go_wp2_with fail
      go_ret
      exact ⟨rfl, hA.out _ _⟩
  · have hr : r = false := by have := HR.out; simp [h1] at this; exact this
    subst hr
    go_enter Try.func37, Try.ntmps37
    go_wp2_with fail
    go_ret
    exact ⟨rfl, hA.out _ _⟩
end Go.Proofs.Ytlbfjaifemnkpaa
